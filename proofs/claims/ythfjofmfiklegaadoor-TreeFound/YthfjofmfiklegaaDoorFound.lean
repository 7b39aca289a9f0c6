/- TreeFound, in the code. -/
import Derived.Test.YthfjofmfiklegaaDoorPlaces
import Derived.Test.YthfjofmfiklegaaDoorRefFiles
import Derived.Test.YthfjofmfiklegaaDoorFnd
namespace Go.Proofs.YthfjofmfiklegaaDoor
open Go.RowKit
set_option linter.unusedSimpArgs false
theorem file_lies {lo hi : Nat} {w : World} {a : Option Addr} {c : Nat} {b : ByteArray} (h : Row lo hi w (.slice a b.size c) b.size (byteVals b)) : Lies lo hi w (.mk 1 false b [] []) [.int .i64 1, .bool false, .slice a b.size c, .slice none 0 0, .slice none 0 0] := by
  have h0 : ∀ n, n = 0 → ∀ xs, Row lo hi w (.slice none 0 0) n xs := fun n hn xs => by subst hn; exact ⟨none, 0, rfl, Nat.le_refl _, fun h => absurd h (by simp)⟩
  exact .mk 1 false b [] [] _ _ _ [] rfl h (h0 _ rfl _) (h0 _ rfl _) (fun i t c h1 _ => by simp at h1)
theorem wt_file (b : ByteArray) : wt (.mk 1 false b [] []) = 1 + b.size / 10 := by rw [wt]; simp [tenths, wts]
theorem mem_take_succ {l : List ByteArray} {i : Nat} (h : i < l.length) (x : ByteArray) : x ∈ l.take (i + 1) ↔ x ∈ l.take i ∨ l.getD i ⟨#[]⟩ = x := by
  rw [List.take_add_one, List.getElem?_eq_getElem h, List.mem_append, List.getD_eq_getElem?_getD, List.getElem?_eq_getElem h]
  simp [eq_comm]
theorem getD_mem {l : List ByteArray} {i : Nat} (h : i < l.length) : l.getD i ⟨#[]⟩ ∈ l := by
  rw [List.getD_eq_getElem?_getD, List.getElem?_eq_getElem h]; exact List.getElem_mem h
theorem filesS_len' (T : Tr) : (filesS T).length ≤ wt T := by
  unfold filesS
  split
  · rw [sortB_length]; exact filesL_len T _
  · simp
noncomputable def memB (x : ByteArray) (l : List ByteArray) : Bool := @decide (x ∈ l) (Classical.propDecidable _)
theorem memB_yes {x : ByteArray} {l : List ByteArray} (h : x ∈ l) : memB x l = true := by unfold memB; exact @decide_eq_true _ (Classical.propDecidable _) h
theorem memB_no {x : ByteArray} {l : List ByteArray} (h : x ∉ l) : memB x l = false := by unfold memB; exact @decide_eq_false _ (Classical.propDecidable _) h
theorem memB_iff {x : ByteArray} {l : List ByteArray} (h : memB x l = true) : x ∈ l := by
  unfold memB at h; exact @of_decide_eq_true _ (Classical.propDecidable _) h
set_option maxRecDepth 20000 in
set_option maxHeartbeats 8000000 in
theorem found_any (T : Tr) (p b : ByteArray) (lo hi : Nat) (ct : List Value) (ab : Option Addr) (cb : Nat) (w : World) (hT : Lies lo hi w T ct) (hb : Row lo hi w (.slice ab b.size cb) b.size (byteVals b)) (hhi : hi ≤ w.heap.size) (hF : Fit T) (hp : p.size ≤ 140737488351232) (hbs : b.size ≤ 140737488351232) :
    Calls Tryd.prog 8 #[.agg ct.toArray, .string p, .slice ab b.size cb] w fun e w' => e = .returned (.bool true) ∧ Below w.heap.size w w' := by
  obtain ⟨kt, xt, at0, nt, ct, bt, mt, dt, et, pt, qt, rfl⟩ := hT.form
  obtain ⟨wA, hwA⟩ : ∃ wA, wA = (w.alloc (.cells #[.int .i64 kt, .bool xt, .slice at0 nt ct, .slice bt mt dt, .slice et pt qt] 26)).alloc (.cells #[.int .i64 kt, .bool xt, .slice at0 nt ct, .slice bt mt dt, .slice et pt qt] 26) := ⟨_, rfl⟩
  have hbA : Below w.heap.size w wA := by rw [hwA]; exact ((Below.refl _ _).alloc (Nat.le_refl _) _).alloc (by simp) _
  have hsA : wA.heap.size = w.heap.size + 1 + 1 := by rw [hwA]; simp
  have hB : Box1 w wA (.int .i64 kt) (.bool xt) (.slice at0 nt ct) (.slice bt mt dt) (.slice et pt qt) := by
    refine ⟨hbA, by omega, ?_⟩
    rw [hwA]; exact (bx_new w _ _ _ _ _).kept ((Below.refl (w.heap.size + 1) _).alloc (by simp) _) (by omega)
  have hby : wA.heap[w.heap.size + 1]? = some (.cells #[.int .i64 kt, .bool xt, .slice at0 nt ct, .slice bt mt dt, .slice et pt qt] 26) := by
    rw [hwA]
    show ((w.heap.push _).push _)[w.heap.size + 1]? = _
    rw [Array.getElem?_push, if_pos (by simp)]
  have HH := hide (heavy1 T lo hi (w.heap.size + 1) _ _ _ _ _ wA (hT.kept hbA hhi) (by omega) hF hby)
  have HL := hide (And.intro hT (file_lies hb))
  have HwA := hide hwA
  have HB := hide hB
  have hwf := wt_file b
  clear hwA hbA hby hT hF hB hb
  obtain ⟨nb, hnb⟩ : ∃ nb, b.size = nb := ⟨_, rfl⟩
  rw [hnb] at hbs HL hwf ⊢
  have Hnb := hide hnb
  clear hnb
  go_enter Tryd.func8, Tryd.ntmps8
  go_wp2_with fail
  rw [← unhide HwA]
  refine (unhide HH).mono ?_
  rintro e w1 ⟨hb1, hans⟩
  have hs1 := hb1.size
  have HB1 := hide ((unhide HB).kept hb1 (by omega))
  clear hb1 HH HB HwA
  rcases hans with rfl | ⟨rfl, hwt⟩
  · go_wp2_with fail
    go_ret
    exact ⟨rfl, (unhide HB1).b⟩
  by_cases hlen : 600 < p.size
  · go_wp2_with fail
    go_ret
    exact ⟨rfl, (unhide HB1).b⟩
  by_cases hlen2 : 3000 < nb
  · go_wp2_with fail
    go_ret
    exact ⟨rfl, (unhide HB1).b⟩
  have HP : Hid (p.size ≤ 600 ∧ nb ≤ 3000) := by exact ⟨by omega, by omega⟩
  have hs1' := (unhide HB1).s
  have HPu := hide (put_any T (.mk 1 false b [] []) p lo hi lo hi _ _ w1 ((unhide HL).1.kept (unhide HB1).b hhi) ((unhide HL).2.kept (unhide HB1).b hhi) (by omega) (by omega) (by omega) (by rw [hwf]; omega) (by omega))
  obtain ⟨y0, y1, y2, y3, y4⟩ := (unhide HB1).t.cells
  have hl1 : w.heap.size < w1.heap.size := by omega
  go_wp2_with fail
  clear hlen hlen2 hp hbs
  refine (unhide HPu).mono ?_
  rintro e w2 ⟨hb2, hans⟩
  obtain ⟨ak, ax, aa, an, ac, ba, bn, bc, da, dn, dc, rfl, hLx⟩ := putA_res hans
  have hs2 := hb2.size
  obtain ⟨w3, hw3, hb3, hs3, hx3⟩ := box_new w2 (.int .i64 ak) (.bool ax) (.slice aa an ac) (.slice ba bn bc) (.slice da dn dc)
  have HB3 := hide (((unhide HB1).kept hb2 (by omega)).kept hb3 (by omega))
  have Hw3 := hide hw3
  by_cases hr0 : resN (putS T p (.mk 1 false b [] [])) = 0
  case neg =>
    have hne := ne0 hr0
    clear hr0 hLx hans HPu hw3 hx3 hb2 hb3
    generalize resN (putS T p (.mk 1 false b [] [])) = rn at *
    go_wp2_with fail
    rw [← unhide Hw3]
    refine (known_any _).mono ?_
    rintro e wk ⟨rfl, hbk⟩
    have hsk := hbk.size
    go_wp2_with fail
    go_ret
    exact ⟨rfl, (unhide HB3).b.trans (hbk.mono (by omega))⟩
  case pos =>
  obtain ⟨W, hW⟩ := putS_ok hr0
  rw [hr0]
  rw [hW] at hLx
  have hWt : wt W ≤ 100000 := by have := putS_wt hW; omega
  obtain ⟨hf1, hf2, hf3⟩ := put_files hW
  have HFi := hide (files_any W w1.heap.size w2.heap.size _ w3 (hLx.kept hb3 (Nat.le_refl _)) hWt (by omega))
  have hNL := filesS_len' W
  have hNW := filesS_len' T
  clear hr0 hans HPu hw3 hb3 y0 y1 y2 y3 y4 hLx
  go_wp2_with fail
  rw [← unhide Hw3]
  refine (unhide HFi).mono ?_
  rintro e w4 ⟨hb4, a4, c4, rfl, hR4⟩
  have hs4 := hb4.size
  have HB4 := hide ((unhide HB3).kept hb4 (by omega))
  have HFr := hide (refFiles_any T lo hi _ w4 ((unhide HL).1.kept (unhide HB4).b hhi) (by omega) (by omega))
  have HR4 := hide hR4
  obtain ⟨y0, y1, y2, y3, y4⟩ := (unhide HB4).t.cells
  have hl4 : w.heap.size < w4.heap.size := by omega
  clear hR4 hb4 HFi HB3
  go_wp2_with fail
  refine (unhide HFr).mono ?_
  rintro e w5 ⟨hb5, a5, c5, rfl, hR5⟩
  have hs5 := hb5.size
  have HB5 := hide ((unhide HB4).kept hb5 (by omega))
  have hR4 := (unhide HR4).below hb5 (Nat.le_refl _)
  generalize hLe : filesS W = L at *
  generalize hSe : filesS T = S at *
  obtain ⟨NL, hNLe⟩ : ∃ NL, L.length = NL := ⟨_, rfl⟩
  obtain ⟨NS, hNSe⟩ : ∃ NS, S.length = NS := ⟨_, rfl⟩
  rw [hNLe] at hR4 hNL ⊢
  rw [hNSe] at hR5 hNW ⊢
  have HX : Hid (∀ i, i < NL → ∃ g o, a4 = some ⟨g, o, none⟩ ∧ w5.cell? ⟨g, o + i, none⟩ = some (.string (L.getD i ⟨#[]⟩))) := fun i hi => row_str hR4 hNLe i hi
  have HY : Hid (∀ i, i < NS → ∃ g o, a5 = some ⟨g, o, none⟩ ∧ w5.cell? ⟨g, o + i, none⟩ = some (.string (S.getD i ⟨#[]⟩))) := fun i hi => row_str hR5 hNSe i hi
  have HN := hide (And.intro hNLe hNSe)
  have HFa := hide (And.intro hf1 (And.intro hf2 hf3))
  have hNLm : NL ≤ 100000 := by omega
  have hNSm : NS ≤ 100000 := by omega
  clear hb5 hR4 hR5 HFr HR4 HB4 y0 y1 y2 y3 y4 hLe hSe hNLe hNSe hf1 hf2 hf3 hNL hNW hx3 hW hWt Hw3 hb2
  go_wp2_with fail
  go_loopw [12, 11] (fun vi vf wr => ∃ i : Nat, i ≤ NL ∧ vi = .int .i64 (i : Int) ∧ vf = .bool (memB p (L.take i)) ∧ ∃ q, wr = w5.drewN q) (fun vi _ _ => NL - (intOf vi).toNat)
  case atStart => exact ⟨0, by omega, rfl, by rw [List.take_zero, memB_no (by simp)], 0, rfl⟩
  case round =>
    obtain ⟨i, hiN, rfl, rfl, q, rfl⟩ := hrel
    by_cases hlt : i < NL
    · obtain ⟨g, o, ha4, hcx⟩ := unhide HX i hlt
      have hiL : i < L.length := by rw [(unhide HN).1]; exact hlt
      have hmL := getD_mem hiL
      generalize hfo : memB p (L.take i) = fo at *
      have Hfo := hide hfo
      clear hfo
      go_wp2_with fail
      go_loopw [14, 13] (fun vk vo wr => ∃ k : Nat, k ≤ NS ∧ vk = .int .i64 (k : Int) ∧ vo = .bool (memB (L.getD i ⟨#[]⟩) (S.take k)) ∧ ∃ q, wr = w5.drewN q) (fun vk _ _ => NS - (intOf vk).toNat)
      case atStart => exact ⟨0, by omega, rfl, by rw [List.take_zero, memB_no (by simp)], q, rfl⟩
      case round =>
        obtain ⟨k, hkN, rfl, rfl, q2, rfl⟩ := hrel
        by_cases hlt2 : k < NS
        · obtain ⟨g', o', ha5, hcy⟩ := unhide HY k hlt2
          have hkS : k < S.length := by rw [(unhide HN).2]; exact hlt2
          have hmt := mem_take_succ hkS (L.getD i ⟨#[]⟩)
          subst ha4 ha5
          cases hold : memB (L.getD i ⟨#[]⟩) (S.take k)
          case true =>
            have Hnew : Hid (memB (L.getD i ⟨#[]⟩) (S.take (k + 1)) = true) := memB_yes (hmt.2 (.inl (memB_iff hold)))
            clear hold hmt hmL
            generalize L.getD i ⟨#[]⟩ = li at *
            generalize S.getD k ⟨#[]⟩ = sk at *
            go_wp2_with fail
            go_quiet (fail)
            go_wp2_with fail
            go_roundw
            case rel => exact ⟨k + 1, by omega, by go_num, by rw [unhide Hnew], _, rfl⟩
            case measure => simp [intOf]; try omega
          case false =>
            by_cases he : S.getD k ⟨#[]⟩ = L.getD i ⟨#[]⟩
            · have Hnew : Hid (memB (L.getD i ⟨#[]⟩) (S.take (k + 1)) = true) := memB_yes (hmt.2 (.inr he))
              have hbe : ((S.getD k ⟨#[]⟩).toList == (L.getD i ⟨#[]⟩).toList) = true := by rw [he]; simp
              clear hold hmt hmL he
              generalize L.getD i ⟨#[]⟩ = li at *
              generalize S.getD k ⟨#[]⟩ = sk at *
              go_wp2_with fail
              go_quiet (fail)
              go_wp2_with fail
              go_roundw
              case rel => exact ⟨k + 1, by omega, by go_num, by rw [unhide Hnew], _, rfl⟩
              case measure => simp [intOf]; try omega
            · have Hnew : Hid (memB (L.getD i ⟨#[]⟩) (S.take (k + 1)) = false) := memB_no (fun h => by
                rcases hmt.1 h with h | h
                · rw [memB_yes h] at hold; cases hold
                · exact he h)
              have hbe := bytes_ne he
              clear hold hmt hmL he
              generalize L.getD i ⟨#[]⟩ = li at *
              generalize S.getD k ⟨#[]⟩ = sk at *
              go_wp2_with fail
              go_quiet (fail)
              go_wp2_with fail
              go_roundw
              case rel => exact ⟨k + 1, by omega, by go_num, by rw [unhide Hnew], _, rfl⟩
              case measure => simp [intOf]; try omega
        · obtain rfl : NS = k := by omega
          have hfull : S.take NS = S := List.take_of_length_le (by rw [(unhide HN).2]; omega)
          rw [hfull]
          obtain ⟨hf1, hf2, hf3⟩ := unhide HFa
          have hmt := mem_take_succ hiL p
          have hcase := hf2 _ hmL
          have Hstr : Hid (∀ m, i = m + 1 → (L.getD m ⟨#[]⟩).toList < (L.getD i ⟨#[]⟩).toList) := fun m hm => rise_pw.2 hf3 m i (by omega) hiL
          by_cases he : L.getD i ⟨#[]⟩ = p
          · skip
            have Hnew : Hid (memB p (L.take (i + 1)) = true) := memB_yes (hmt.2 (.inr he))
            have hbe : ((L.getD i ⟨#[]⟩).toList == p.toList) = true := by rw [he]; simp
            clear hmt hcase he hmL hf1 hf2 hf3
            generalize memB (L.getD i ⟨#[]⟩) S = ob at *
            subst ha4
            cases i with
            | zero =>
              rw [Nat.add_zero] at hcx
              clear Hstr
              generalize L.getD 0 ⟨#[]⟩ = li at *
              go_wp2_with fail
              go_quiet (fail)
              go_wp2_with fail
              go_roundw
              case rel => exact ⟨0 + 1, by omega, by go_num, by rw [unhide Hnew], _, rfl⟩
              case measure => simp [intOf]; try omega
            | succ m =>
              obtain ⟨g2, o2, ha2, hcm⟩ := unhide HX m (by omega)
              cases ha2
              have hls := unhide Hstr m rfl
              have hbl : Op.bytesLess (L.getD (m + 1) ⟨#[]⟩).toList (L.getD m ⟨#[]⟩).toList = false := by rw [Go.Proofs.bytesLess_eq]; exact decide_eq_false (fun h => List.lt_irrefl _ (List.lt_trans h hls))
              have hbm : ((L.getD (m + 1) ⟨#[]⟩).toList == (L.getD m ⟨#[]⟩).toList) = false := by rw [beq_eq_false_iff_ne]; intro e; rw [e] at hls; exact List.lt_irrefl _ hls
              clear hls Hstr
              generalize L.getD (m + 1) ⟨#[]⟩ = li at *
              generalize L.getD m ⟨#[]⟩ = lm at *
              rw [show (((m + 1 : Nat)) : Int) = (m : Int) + 1 by omega]
              go_wp2_with fail
              go_quiet (fail)
              go_wp2_with fail
              go_roundw
              case rel => exact ⟨m + 1 + 1, by omega, by go_num, by rw [unhide Hnew], _, rfl⟩
              case measure => simp [intOf]; try omega
          · skip
            have Hnew : Hid (memB p (L.take (i + 1)) = fo) := by
              show _ = _
              rw [← unhide Hfo]
              cases hm : memB p (L.take i)
              · exact memB_no (fun h => by
                  rcases hmt.1 h with h | h
                  · rw [memB_yes h] at hm; cases hm
                  · exact he h)
              · exact memB_yes (hmt.2 (.inl (memB_iff hm)))
            have hbe := bytes_ne he
            have hob : memB (L.getD i ⟨#[]⟩) S = true := by
              rcases hcase with h | h
              · exact absurd h he
              · exact memB_yes h
            rw [hob]
            clear hmt hcase he hmL hob hf1 hf2 hf3
            subst ha4
            cases i with
            | zero =>
              rw [Nat.add_zero] at hcx
              clear Hstr
              generalize L.getD 0 ⟨#[]⟩ = li at *
              go_wp2_with fail
              go_quiet (fail)
              go_wp2_with fail
              go_roundw
              case rel => exact ⟨0 + 1, by omega, by go_num, by rw [unhide Hnew], _, rfl⟩
              case measure => simp [intOf]; try omega
            | succ m =>
              obtain ⟨g2, o2, ha2, hcm⟩ := unhide HX m (by omega)
              cases ha2
              have hls := unhide Hstr m rfl
              have hbl : Op.bytesLess (L.getD (m + 1) ⟨#[]⟩).toList (L.getD m ⟨#[]⟩).toList = false := by rw [Go.Proofs.bytesLess_eq]; exact decide_eq_false (fun h => List.lt_irrefl _ (List.lt_trans h hls))
              have hbm : ((L.getD (m + 1) ⟨#[]⟩).toList == (L.getD m ⟨#[]⟩).toList) = false := by rw [beq_eq_false_iff_ne]; intro e; rw [e] at hls; exact List.lt_irrefl _ hls
              clear hls Hstr
              generalize L.getD (m + 1) ⟨#[]⟩ = li at *
              generalize L.getD m ⟨#[]⟩ = lm at *
              rw [show (((m + 1 : Nat)) : Int) = (m : Int) + 1 by omega]
              go_wp2_with fail
              go_quiet (fail)
              go_wp2_with fail
              go_roundw
              case rel => exact ⟨m + 1 + 1, by omega, by go_num, by rw [unhide Hnew], _, rfl⟩
              case measure => simp [intOf]; try omega
    · obtain rfl : NL = i := by omega
      have hfull : L.take NL = L := List.take_of_length_le (by rw [(unhide HN).1]; omega)
      rw [hfull, memB_yes (unhide HFa).1]
      go_wp2_with fail
      refine (known_any _).mono ?_
      rintro e wk ⟨rfl, hbk⟩
      have hsk : w5.heap.size ≤ wk.heap.size := hbk.size
      go_wp2_with fail
      go_ret
      exact ⟨rfl, (unhide HB5).b.trans ((below_drewN (Below.refl w5.heap.size w5) q).trans (hbk.mono (Nat.le_refl _)) |>.mono (by omega))⟩
end Go.Proofs.YthfjofmfiklegaaDoor
