/- LocksAlone: the walk. -/
import Derived.Test.YtnlfmmempomcaaaSe
import Derived.Laws.EntriesVeiled
import Derived.Deep.RegionWith
import Derived.Deep.CutBlock
import Derived.Deep.DeepCutAuto
import Derived.BigQuiet
import Derived.Deep.QuietTactic
namespace Go.Proofs.Ytnlfmmempomcaaa
open Go.RowKit Go.Maps
set_option linter.unusedSimpArgs false
theorem neqL {a b : ByteArray} (h : a ≠ b) : (a.toList == b.toList) = false := by
  cases e : (a.toList == b.toList) with
  | false => rfl
  | true =>
    rw [beq_iff_eq, ByteArray.toList_eq, ByteArray.toList_eq] at e
    exact absurd (bytes_eq e) h
theorem eqL (a : ByteArray) : (a.toList == a.toList) = true := by simp
def AloneR (tb mb len : Nat) (X : Nat → Sp) (w : World) (v : Value) (wr : World) : Prop := ∃ i : Nat, v = .int .i64 (i : Int) ∧ i ≤ len ∧ i ≤ 200 ∧ ∃ O S L k, AlS tb mb i X none w O S L k wr
set_option maxRecDepth 20000 in
set_option maxHeartbeats 8000000 in
theorem alone_any (a : Option Addr) (len cap : Nat) (X : Nat → Sp) (w : World) (ha : Script w a len X) : Calls Try.prog 4 #[.slice a len cap] w fun e w' => e = .returned (.bool true) ∧ Below w.heap.size w w' := by
  have hmk := @run_makeMap Try.prog
  have HK := hide known_ok
  have HA := hide ha
  have HV := hide (heavy_ok a len cap X w ha)
  have HN : Hid (∀ w1, Below w.heap.size w w1 → _) := fun w1 hb => new_ok (k := 0) (B := w1.heap.size) (fun _ => none) w1 (mem_none 0 w1) (Nat.le_refl _)
  clear ha
  go_enter Try.func4, Try.ntmps4
  go_wp2_with (first | (go_at_call 9; refine (unhide HV).mono ?_; rintro e w1 (⟨rfl, hnm, hb1⟩ | ⟨rfl, hb1⟩) <;> have HB1 := hide hb1) | (go_at_call 10; refine (unhide HK _).mono ?_; rintro e w6 ⟨rfl, hb6⟩) | (go_at_call 11; refine (unhide HN w1 (unhide HB1)).mono ?_; rintro e w2 ⟨tb, rfl, hL⟩))
  · have HNM := hide hnm
    obtain ⟨O0, h0⟩ := al_start (X := X) (unhide HB1) hL
    have H0 := hide h0
    clear hnm hL hb1 h0
    go_loopw [5] (fun v wr => AloneR tb w2.heap.size len X w v wr) (fun v _ => len - (intOf v).toNat)
    case atStart => exact ⟨0, rfl, Nat.zero_le _, Nat.zero_le _, _, _, _, _, unhide H0⟩
    case round =>
      obtain ⟨i, rfl, hi, hi200, O, S, L, k, hS⟩ := hrel
      by_cases hil : i < len
      · by_cases hi2 : i < 200
        · have hilI : (i : Int) < (len : Int) := by omega
          have hi2I : (i : Int) < 200 := by omega
          obtain ⟨g, o, rfl, e2, c0, c1, c2, c3, hT, hNs⟩ := unhide HA i hil
          have hbw := hS.bel
          have d0 := (hbw.cell (p := ⟨g, o + i * 4, none⟩) e2).trans c0
          have d1 := (hbw.cell (p := ⟨g, o + i * 4 + 1, none⟩) e2).trans c1
          have d2 := (hbw.cell (p := ⟨g, o + i * 4 + 2, none⟩) e2).trans c2
          have d3 := (hbw.cell (p := ⟨g, o + i * 4 + 3, none⟩) e2).trans c3
          have hX := hS.alloc (X i)
          obtain ⟨x0, x1, x2, x3⟩ := hX.xcell
          have hNs4 : (X i).N.size ≤ 4000 := unhide HNM i hil hi2
          have hI1 : (i : Int) ≤ 200 := by omega
          have hcases : ((X i).K = 1 ∧ (X i).D = true) ∨ ((X i).K = 1 ∧ (X i).D = false) ∨ (X i).K = 2 ∨ (¬ (X i).K = 1 ∧ ¬ (X i).K = 2) := by
            by_cases h1 : (X i).K = 1
            · cases h2 : (X i).D
              · exact .inr (.inl ⟨h1, rfl⟩)
              · exact .inl ⟨h1, rfl⟩
            · by_cases h2 : (X i).K = 2
              · exact .inr (.inr (.inl h2))
              · exact .inr (.inr (.inr ⟨h1, h2⟩))
          have HG := hide (give_arm hX hi2 hT hNs4)
          have HLv := hide (leave_arm hX hi2 hT)
          have HT := hide (take_arm hX hi2 hT hNs4)
          clear hS hX c0 c1 c2 c3 e2 hbw
          obtain ⟨wo, hwo⟩ : ∃ wo, wo = wr := ⟨_, rfl⟩
          subst hwo
          go_upto_block 2 with fail
          go_cut [6, 7, 8, 9, 38] (fun v6 _ _ _ _ wx => v6 = .pointer (some ⟨wo.heap.size, 0, none⟩) ∧ Bhd tb w2.heap.size i X wo.heap.size w wx)
          case first =>
            rcases hcases with ⟨hK, hD⟩ | ⟨hK, hD⟩ | hK | ⟨hK, hK2⟩
            · rw [hK] at d0 x0 x1 x2 x3 HT ⊢
              rw [hD] at HT x0 x1 x2 x3 d3 ⊢
              go_wp2_with (first | (go_at_call 12; refine (unhide HT).mono ?_; rintro e w4 (⟨b, rfl, ⟨y0, y1, y2, y3⟩, w5, hst, H21, HA5⟩ | ⟨z, rfl, hz, ⟨y0, y1, y2, y3⟩, H21, HA5⟩) <;> first | (replace hst : (Instr.mapUpdate 48 (.map (some w2.heap.size)) (.agg #[.int .i64 0, .int .i64 (X i).T, .string (X i).N, .bool false]) (.int .i64 2)).run Try.prog w4 = .ok () w5 := hst; have HB5 : Hid (Bhd tb w2.heap.size i X wo.heap.size w w5) := HA5; clear HA5; obtain ⟨s0, s1, s2, s3⟩ := (unhide HB5).cells) | (obtain ⟨w5, hw5⟩ : ∃ w5, w5 = w4 := ⟨_, rfl⟩; subst hw5; have HB5 : Hid (Bhd tb w2.heap.size i X wo.heap.size w w5) := HA5; clear HA5)) | (go_at_call 21; refine (unhide H21).mono ?_; first | (rintro e w6 ⟨rfl, hw6⟩; rw [hw6]; clear hw6 w6) | (rintro e w6 ⟨⟨b2, rfl⟩, hw6⟩; rw [hw6]; clear hw6 w6)))
              all_goals go_meet
              all_goals exact ⟨rfl, unhide HB5⟩
            · rw [hK] at d0 x0 x1 x2 x3 HT ⊢
              rw [hD] at HT x0 x1 x2 x3 d3 ⊢
              go_wp2_with (first | (go_at_call 12; refine (unhide HT).mono ?_; rintro e w4 (⟨b, rfl, ⟨y0, y1, y2, y3⟩, w5, hst, H21, HA5⟩ | ⟨z, rfl, hz, ⟨y0, y1, y2, y3⟩, H21, HA5⟩) <;> first | (replace hst : (Instr.mapUpdate 48 (.map (some w2.heap.size)) (.agg #[.int .i64 0, .int .i64 (X i).T, .string (X i).N, .bool false]) (.int .i64 1)).run Try.prog w4 = .ok () w5 := hst; have HB5 : Hid (Bhd tb w2.heap.size i X wo.heap.size w w5) := HA5; clear HA5; obtain ⟨s0, s1, s2, s3⟩ := (unhide HB5).cells) | (obtain ⟨w5, hw5⟩ : ∃ w5, w5 = w4 := ⟨_, rfl⟩; subst hw5; have HB5 : Hid (Bhd tb w2.heap.size i X wo.heap.size w w5) := HA5; clear HA5)) | (go_at_call 21; refine (unhide H21).mono ?_; first | (rintro e w6 ⟨rfl, hw6⟩; rw [hw6]; clear hw6 w6) | (rintro e w6 ⟨⟨b2, rfl⟩, hw6⟩; rw [hw6]; clear hw6 w6)))
              all_goals go_meet
              all_goals exact ⟨rfl, unhide HB5⟩
            · rw [hK] at d0 x0 x1 x2 x3 HG ⊢
              go_wp2_with (first | (go_at_call 14; refine (unhide HG).mono ?_; rintro e w5 ⟨⟨v5, z5, rfl⟩, O5, S5, k5, HA5⟩; have HB5 : Hid (Bhd tb w2.heap.size i X wo.heap.size w w5) := ⟨O5, S5, L, k5, HA5⟩; clear HA5))
              all_goals go_meet
              all_goals exact ⟨rfl, unhide HB5⟩
            · go_wp2_with (first | (go_at_call 17; refine (unhide HLv).mono ?_; rintro e w5 ⟨⟨v5, rfl⟩, O5, S5, k5, HA5⟩; have HB5 : Hid (Bhd tb w2.heap.size i X wo.heap.size w w5) := ⟨O5, S5, L, k5, HA5⟩; clear HA5))
              all_goals go_meet
              all_goals exact ⟨rfl, unhide HB5⟩
          case rest =>
            obtain ⟨rfl, HB⟩ := hcut
            have HB5 := hide HB
            clear HB HG HLv HT hcases hT d0 d1 d2 d3 x0 x1 x2 x3 HN H0
            go_wp2_with fail
            go_loopw [10, 11, 12, 13] (fun vh va vs vk W => ChR tb w2.heap.size i X wo.heap.size w vh va vs vk W) (fun _ _ _ vk _ => i + 1 - (intOf vk).toNat)
            case atStart => exact (unhide HB5).start
            case round =>
              obtain ⟨O6, S6, L6, k6, sn, A, j, rfl, rfl, rfl, hj, hnd, hsn, hA, hAs, hsj, hnum, hS6⟩ := hrel
              by_cases hji : j ≤ i
              · have hjI : (j : Int) ≤ (i : Int) := by omega
                have hjl : (j : Int) < (len : Int) := by omega
                have hj2 : (j : Int) ≤ 200 := by omega
                obtain ⟨r1, r2, r3, hTj⟩ := hS6.reads (unhide HA) (j := j) (by omega)
                by_cases hN : (X j).N = (X i).N
                · rw [hN] at r2
                  have heq := eqL (X i).N
                  have hnN : ∀ q, Nums w.heap.size O6 (wr.drewN q) u12 sn := fun q => hnum.kept (Stp.ofBelow (c := 0) (below_drewN wr q))
                  have hSN : ∀ q, AlS tb w2.heap.size (i + 1) X (some (wo.heap.size, X i)) w O6 S6 L6 k6 (wr.drewN q) := fun q => hS6.below (below_drewN wr q)
                  have HR : Hid (∀ q, ChR tb w2.heap.size i X wo.heap.size w (.int .i64 (sn.length : Int)) (.int .i64 (A : Int)) u12 (.int .i64 ((j : Int) + 1)) (wr.drewN q)) := fun q => ⟨O6, S6, L6, k6, sn, A, j + 1, rfl, rfl, by simp, by omega, hnd, hsn, hA, hAs, by omega, hnN q, hSN q⟩
                  have HH : Hid (∀ q, Calls Try.prog 23 #[u12, .int .i64 (X j).T] (wr.drewN q) fun e w' => e = .returned (.bool (decide ((X j).T ∈ sn))) ∧ w' = wr.drewN q) := fun q => has_ok _ _ sn _ (hnN q).row (by omega)
                  have HO : Hid (∀ q, Calls Try.prog 21 #[.pointer (some ⟨tb, 0, none⟩), .int .i64 (X j).T, .string (X i).N] (wr.drewN q) fun e w' => e = .returned (.bool (S6.holds (X j).T (X i).N)) ∧ w' = wr.drewN q) := fun q => holds_tb O6 tb S6 _ (hSN q).mem hS6.tab _ _ hTj (by unfold SOk maxLen; omega)
                  by_cases hmem : (X j).T ∈ sn
                  · rw [decide_eq_true hmem] at HH
                    clear hS6 hnum hnd hsn hA hAs hsj hnN hSN hmem
                    go_wp2_with fail
                    go_quiet (first | (go_at_call 23; exact Calls.quiet_of_same (unhide HH _)))
                    go_wp2_with fail
                    go_roundw
                    case rel => exact unhide HR _
                    case measure => simp [intOf]; omega
                  · rw [decide_eq_false hmem] at HH
                    cases hho : S6.holds (X j).T (X i).N with
                    | false =>
                      rw [hho] at HO
                      clear hS6 hnum hnd hsn hA hAs hsj hnN hSN hmem hho
                      go_wp2_with fail
                      go_quiet (first | (go_at_call 23; exact Calls.quiet_of_same (unhide HH _)) | (go_at_call 21; exact Calls.quiet_of_same (unhide HO _)))
                      go_wp2_with fail
                      go_roundw
                      case rel => exact unhide HR _
                      case measure => simp [intOf]; omega
                    | true =>
                      rw [hho] at HO
                      have HNEW : Hid (∀ q, _) := fun q => ch_new (hSN q) (hnN q) (by omega) hNs4 hTj (by simpa [St.holds] using hho)
                      have HC : Hid (j ≤ i ∧ sn.Nodup ∧ (∀ m ∈ sn, m ∈ S6.hs (X i).N) ∧ A ≤ sn.length ∧ (0 < A → S6.sh (X i).N = false) ∧ sn.length ≤ j ∧ (X j).T ∉ sn ∧ (X j).T ∈ S6.hs (X i).N) := ⟨hji, hnd, hsn, hA, hAs, hsj, hmem, by simpa [St.holds] using hho⟩
                      clear hS6 hnum hnd hsn hA hAs hsj hnN hSN hmem hho HR
                      go_wp2_with fail
                      go_quiet (first | (go_at_call 23; exact Calls.quiet_of_same (unhide HH _)) | (go_at_call 21; exact Calls.quiet_of_same (unhide HO _)))
                      obtain ⟨v', w6, hap, hn6, hS8, hlk, HW⟩ := unhide HNEW nq
                      replace hap : ∀ ty, (app38 ty #[u12, .slice (some ⟨wr.heap.size, 0, none⟩) 1 1]).run Try.prog ((wr.drewN nq).alloc (.cells #[.int .i64 (X j).T] 3)) = .ok v' w6 := hap
                      obtain ⟨r61, r62, r63, _⟩ := hS8.reads (unhide HA) (j := j) (by omega)
                      rw [hN] at r62
                      obtain ⟨sl, hsl⟩ : ∃ sl : Nat, sl = sn.length := ⟨_, rfl⟩
                      have HR7 : Hid (∀ A' W, Below w6.heap.size w6 W → A' ≤ A + 1 → (A' = A ∨ S6.sh (X i).N = false) → ChR tb w2.heap.size i X wo.heap.size w (.int .i64 ((sl : Int) + 1)) (.int .i64 ((A' : Nat) : Int)) v' (.int .i64 ((j : Int) + 1)) W) := fun A' W hW h1 h2 => by
                        obtain ⟨c1, c2, c3, c4, c5, c6, c7, c8⟩ := unhide HC
                        refine ⟨O6, S6, L6, k6, sn ++ [(X j).T], A', j + 1, by rw [hsl]; simp, rfl, by simp, by omega, ?_, ?_, by rw [List.length_append, List.length_singleton]; omega, ?_, by rw [List.length_append, List.length_singleton]; omega, hn6.kept (Stp.ofBelow (c := 0) hW), hS8.below hW⟩
                        · refine List.nodup_append.2 ⟨c2, by simp, fun a ha b hb e => ?_⟩
                          rw [List.mem_singleton.1 hb] at e
                          exact c7 (e ▸ ha)
                        · intro m hm
                          rcases List.mem_append.1 hm with hm | hm
                          · exact c3 m hm
                          · rw [List.mem_singleton.1 hm]; exact c8
                        · intro h3
                          rcases h2 with h2 | h2
                          · exact c5 (by omega)
                          · exact h2
                      have HXN : Hid (∀ W, Below w6.heap.size w6 W → W.cell? ⟨wo.heap.size, 2, none⟩ = some (.string (X i).N)) := fun W hW => (hS8.below hW).xcell.2.2.1
                      have hslI : (sl : Int) ≤ 200 ∧ (A : Int) ≤ 200 := by
                        obtain ⟨c1, c2, c3, c4, c5, c6, c7, c8⟩ := unhide HC
                        omega
                      obtain ⟨hsl1, hA1⟩ := hslI
                      have HSL := hide hsl
                      rw [← hsl]
                      clear hS8 hn6 HNEW HO HH hsl
                      cases hsh : S6.sh (X i).N with
                      | true =>
                        rw [hsh] at hlk
                        replace hlk : ∀ q, (Instr.lookup 48 (.map (some w2.heap.size)) (.agg #[.int .i64 0, .int .i64 (X j).T, .string (X i).N, .bool false]) false).run Try.prog (w6.drewN q) = .ok (.int .i64 2) (w6.drewN q) := hlk
                        go_wp2_with fail
                        go_quiet (fail)
                        go_wp2_with (first | (go_at_call 19; refine (unhide HW _).mono ?_; rintro e w7 ⟨rfl | ⟨t, rfl, htn⟩, hb7⟩ <;> first | (have hne7 := neqL htn; have HB7 := hide hb7; have r73 := unhide HXN w7 hb7; clear hb7) | (have HB7 := hide hb7; have r73 := unhide HXN w7 hb7; clear hb7)))
                        all_goals exact ⟨unhide HR7 A w7 (unhide HB7) (by omega) (.inl rfl), by simp [intOf]; omega⟩
                      | false =>
                        have hsh2 := hide hsh
                        rw [hsh] at hlk
                        replace hlk : ∀ q, (Instr.lookup 48 (.map (some w2.heap.size)) (.agg #[.int .i64 0, .int .i64 (X j).T, .string (X i).N, .bool false]) false).run Try.prog (w6.drewN q) = .ok (.int .i64 1) (w6.drewN q) := hlk
                        go_wp2_with fail
                        go_quiet (fail)
                        go_wp2_with (first | (go_at_call 19; refine (unhide HW _).mono ?_; rintro e w7 ⟨rfl | ⟨t, rfl, htn⟩, hb7⟩ <;> first | (have hne7 := neqL htn; have HB7 := hide hb7; have r73 := unhide HXN w7 hb7; clear hb7) | (have HB7 := hide hb7; have r73 := unhide HXN w7 hb7; clear hb7)))
                        all_goals refine ⟨?_, by simp [intOf]; omega⟩
                        all_goals have hfin := unhide HR7 (A + 1) w7 (unhide HB7) (by omega) (.inr (unhide hsh2))
                        all_goals rw [show ((A + 1 : Nat) : Int) = (A : Int) + 1 by simp] at hfin
                        all_goals exact hfin
                · have HR : Hid (∀ W, W = wr ∨ Below wr.heap.size wr W → ChR tb w2.heap.size i X wo.heap.size w (.int .i64 (sn.length : Int)) (.int .i64 (A : Int)) u12 (.int .i64 ((j : Int) + 1)) W) := fun W hW => ⟨O6, S6, L6, k6, sn, A, j + 1, rfl, rfl, by simp, by omega, hnd, hsn, hA, hAs, by omega, by
                    rcases hW with rfl | hW
                    · exact hnum
                    · exact hnum.kept (Stp.ofBelow (c := 0) hW), by
                    rcases hW with rfl | hW
                    · exact hS6
                    · exact hS6.below hW⟩
                  have hne := neqL hN
                  clear hS6 hnum hnd hsn hA hAs hsj
                  go_wp2_with fail
                  go_quiet (fail)
                  go_wp2_with fail
                  go_roundw
                  case rel => exact unhide HR _ (.inr (below_drewN _ _))
                  case measure => simp [intOf]; omega
              · have hji2 : ¬ ((j : Int) ≤ (i : Int)) := by omega
                have HR : Hid (∀ W, W = wr ∨ Below wr.heap.size wr W → AloneR tb w2.heap.size len X w (.int .i64 ((i : Int) + 1)) W) := fun W hW => ⟨i + 1, by simp, by omega, by omega, O6, S6, L6, k6, by
                  rcases hW with rfl | hW
                  · exact hS6.forget
                  · exact (hS6.below hW).forget⟩
                have hone : A = 0 ∨ (A ≠ 0 ∧ sn.length ≤ 1) := by
                  by_cases h0 : A = 0
                  · exact .inl h0
                  · have h1 := hS6.md.excl _ (hAs (by omega))
                    have h2 := nodup_sub _ _ hnd hsn
                    exact .inr ⟨h0, by omega⟩
                obtain ⟨sl, hsl⟩ : ∃ sl : Nat, sl = sn.length := ⟨_, rfl⟩
                rw [← hsl] at hone ⊢
                clear hS6 hnum hnd hsn hA hAs hsj hsl
                rcases hone with rfl | ⟨hA0, hs1⟩
                · go_wp2_with fail
                  exact ⟨unhide HR _ (.inl rfl), by simp [intOf]; omega⟩
                · have hA1 : (0 : Int) < (A : Int) := by omega
                  have hs2 : ¬ ((1 : Int) < (sl : Int)) := by omega
                  go_wp2_with fail
                  exact ⟨unhide HR _ (.inl rfl), by simp [intOf]; omega⟩
        · have hilI : (i : Int) < (len : Int) := by omega
          have hi2I : ¬ ((i : Int) < 200) := by omega
          have hB := hS.bel
          clear hS
          go_wp2_with (first | (go_at_call 10; refine (unhide HK _).mono ?_; rintro e w6 ⟨rfl, hb6⟩))
          go_ret
          exact ⟨rfl, hB.trans (hb6.mono hB.size)⟩
      · have hilI : ¬ ((i : Int) < (len : Int)) := by omega
        have hB := hS.bel
        clear hS
        go_wp2_with (first | (go_at_call 10; refine (unhide HK _).mono ?_; rintro e w6 ⟨rfl, hb6⟩))
        go_ret
        exact ⟨rfl, hB.trans (hb6.mono hB.size)⟩
  · go_ret
    exact ⟨rfl, (unhide HB1).trans (hb6.mono (unhide HB1).size)⟩
end Go.Proofs.Ytnlfmmempomcaaa
