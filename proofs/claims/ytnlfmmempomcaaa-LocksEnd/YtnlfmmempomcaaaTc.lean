/- LocksEnd: the walk. -/
import Derived.Test.YtnlfmmempomcaaaTe
import Derived.Laws.EntriesVeiled
import Derived.Deep.RegionWith
import Derived.Deep.CutBlock
import Derived.Deep.DeepCutAuto
import Derived.BigQuiet
import Derived.Deep.QuietTactic
import Derived.Deep.DrawnRows
namespace Go.Proofs.Ytnlfmmempomcaaa
open Go.RowKit Go.Maps
set_option linter.unusedSimpArgs false
attribute [local go_sem ↓] Go.wp_at_zero Go.wp_at_succ
/-- What stands at the first loop's head. -/
def EnR1 (tb len : Nat) (w : World) (vt vi : Value) (wr : World) : Prop := ∃ (i : Nat) (T : List Int) (O : Ghost) (S : St) (k : Nat), vi = .int .i64 (i : Int) ∧ i ≤ len ∧ i ≤ 60 ∧ T.length ≤ i ∧ k ≤ 4 * i ∧ EnS tb w T T vt O S k wr
/-- What stands while all are asked whether they hold. -/
def EnR3 (tb len : Nat) (w : World) (vt vi : Value) (wr : World) : Prop := ∃ (i : Nat) (O : Ghost) (S : St) (k : Nat), vi = .int .i64 (i : Int) ∧ i ≤ len ∧ i ≤ 60 ∧ EnS tb w [] [] vt O S k wr
/-- The order that came in. -/
def Order (w : World) (bo : Option Addr) (m : Nat) : Prop := ∀ j, j < m → ∃ q oo z, bo = some ⟨q, oo, none⟩ ∧ q < w.heap.size ∧ w.cell? ⟨q, oo + j, none⟩ = some (.int .i64 z)
set_option maxRecDepth 20000 in
set_option maxHeartbeats 8000000 in
theorem end_any (a : Option Addr) (len cap : Nat) (X : Nat → Sp) (bo : Option Addr) (m c : Nat) (w : World) (ha : Script w a len X) (ho : Order w bo m) (hm : (m : Int) ≤ 9223372036854775807) : Calls Try.prog 5 #[.slice a len cap, .slice bo m c] w fun e w' => e = .returned (.bool true) ∧ Below w.heap.size w w' := by
  have HK := hide known_ok
  have HA := hide ha
  have HO := hide ho
  have HV := hide (heavy_ok a len cap X w ha)
  have HN : Hid (∀ w1, Below w.heap.size w w1 → _) := fun w1 hb => new_ok (k := 0) (B := w1.heap.size) (fun _ => none) w1 (mem_none 0 w1) (Nat.le_refl _)
  clear ha ho
  by_cases hm4 : 400 < (m : Int)
  · go_enter Try.func5, Try.ntmps5
    go_wp2_with (first | (go_at_call 9; refine (unhide HV).mono ?_; rintro e w1 (⟨rfl, hnm, hb1⟩ | ⟨rfl, hb1⟩) <;> have HB1 := hide hb1) | (go_at_call 10; refine (unhide HK _).mono ?_; rintro e w6 ⟨rfl, hb6⟩))
    · go_ret
      exact ⟨rfl, (unhide HB1).trans (hb6.mono (unhide HB1).size)⟩
    · go_ret
      exact ⟨rfl, (unhide HB1).trans (hb6.mono (unhide HB1).size)⟩
  · have hmI : (m : Int) ≤ 400 := by omega
    go_enter Try.func5, Try.ntmps5
    go_upto_block 0 with (first | (go_at_call 9; refine (unhide HV).mono ?_; rintro e w1 (⟨rfl, hnm, hb1⟩ | ⟨rfl, hb1⟩) <;> have HB1 := hide hb1) | (go_at_call 10; refine (unhide HK _).mono ?_; rintro e w6 ⟨rfl, hb6⟩) | (go_at_call 11; refine (unhide HN w1 (unhide HB1)).mono ?_; rintro e w2 ⟨tb, rfl, hL⟩))
    · have HNM := hide hnm
      obtain ⟨O0, h0⟩ := en_start (unhide HB1) hL
      have H0 := hide h0
      clear hnm hL hb1 h0
      go_cut [6, 7] (fun vt _ wx => ∃ T O S k, EnS tb w T T vt O S k wx ∧ T.length ≤ 60 ∧ k ≤ 240)
      case first =>
        go_wp2_with fail
        go_loopw [6, 7] (fun vt vi wr => EnR1 tb len w vt vi wr) (fun _ vi _ => len - (intOf vi).toNat)
        case atStart => exact ⟨0, [], O0, St.zero, 0, rfl, Nat.zero_le _, Nat.zero_le _, Nat.zero_le _, Nat.zero_le _, unhide H0⟩
        case round =>
          obtain ⟨i, T, O, S, k, rfl, hi, hi60, hTl, hk, hS⟩ := hrel
          by_cases hil : i < len
          · by_cases hi2 : i < 60
            · have hilI : (i : Int) < (len : Int) := by omega
              have hi2I : (i : Int) < 60 := by omega
              obtain ⟨g, o, rfl, e2, c0, c1, c2, c3, hT, hNs⟩ := unhide HA i hil
              have hbw := hS.bel
              have d0 := (hbw.cell (p := ⟨g, o + i * 4, none⟩) e2).trans c0
              have d1 := (hbw.cell (p := ⟨g, o + i * 4 + 1, none⟩) e2).trans c1
              have d2 := (hbw.cell (p := ⟨g, o + i * 4 + 2, none⟩) e2).trans c2
              have d3 := (hbw.cell (p := ⟨g, o + i * 4 + 3, none⟩) e2).trans c3
              have hNs4 : (X i).N.size ≤ 4000 := unhide HNM i hil (by omega)
              by_cases hK : (X i).K = 1
              · have HT0 : Hid (Calls Try.prog 12 #[.pointer (some ⟨tb, 0, none⟩), .int .i64 (X i).T, .string (X i).N, .bool (X i).D] wr.drew _) := en_take (hS.below (Below.refl _ _).drew) (X i).T (X i).N (X i).D hT hNs4 (by omega) (by omega)
                have HC : Hid (T.length ≤ i ∧ k ≤ 4 * i ∧ i < 60 ∧ i < len) := ⟨hTl, hk, hi2, hil⟩
                rw [hK] at d0
                have HA1 : Hid (w.cell? ⟨g, o + i * 4 + 1, none⟩ = some (.int .i64 (X i).T) ∧ True) := ⟨c1, trivial⟩
                clear hS c0 c1 c2 c3 hbw hTl hk
                go_upto_region 11 with fail
                go_cut [6] (fun vt wx => vt = u6 ∧ ∃ O4 S4, EnS tb w T (T ++ [(X i).T]) u6 O4 S4 (k + 4) wx ∧ ((X i).T < 0 → Few S4 T))
                case first =>
                  go_region_with (go_at_call 12; refine (unhide HT0).mono ?_; rintro e w4 ⟨⟨b, z, rfl⟩, O4, S4, h4, h4n⟩; have HS4 := hide h4; have HN4 := hide h4n; clear h4 h4n)
                  all_goals (try go_wp2_with fail)
                  all_goals go_meet
                  all_goals exact ⟨rfl, O4, S4, unhide HS4, unhide HN4⟩
                case rest =>
                  obtain ⟨rfl, O4, S4, h4, h4n⟩ := hcut
                  obtain ⟨g1, g2, g3, g4⟩ := unhide HC
                  have f1 := (h4.bel.cell (p := ⟨g, o + i * 4 + 1, none⟩) e2).trans (unhide HA1).1
                  have HH : Hid (Calls Try.prog 23 #[u6, .int .i64 (X i).T] wc fun e w' => e = .returned (.bool (decide ((X i).T ∈ T))) ∧ w' = wc) := has_ok _ _ T _ h4.row.row (by omega)
                  by_cases hneg : (X i).T < 0
                  · have hge : ¬ (0 : Int) ≤ (X i).T := by omega
                    have HR : Hid (EnR1 tb len w u6 (.int .i64 ((i : Int) + 1)) wc) := ⟨i + 1, T, O4, S4, k + 4, by simp, by omega, by omega, by omega, by omega, h4.among (h4n hneg)⟩
                    clear h4 h4n
                    go_wp2_with fail
                    exact ⟨unhide HR, by simp [intOf]; omega⟩
                  · have hge : (0 : Int) ≤ (X i).T := by omega
                    by_cases hmem : (X i).T ∈ T
                    · rw [decide_eq_true hmem] at HH
                      have HR : Hid (EnR1 tb len w u6 (.int .i64 ((i : Int) + 1)) wc) := ⟨i + 1, T, O4, S4, k + 4, by simp, by omega, by omega, by omega, by omega, h4.among (h4.few.mono fun m hm => by
                        rcases List.mem_append.1 hm with hm | hm
                        · exact hm
                        · rw [List.mem_singleton.1 hm]; exact hmem)⟩
                      clear h4 h4n hmem
                      go_wp2_with (first | (go_at_call 23; refine (unhide HH).mono ?_; rintro e w' ⟨rfl, rfl⟩))
                      all_goals exact ⟨unhide HR, by simp [intOf]; omega⟩
                    · rw [decide_eq_false hmem] at HH
                      obtain ⟨v', w3, hap, hS3⟩ := h4.join (by omega) hmem hT
                      replace hap : ∀ ty, (app38 ty #[u6, .slice (some ⟨wc.heap.size, 0, none⟩) 1 1]).run Try.prog (wc.alloc (.cells #[.int .i64 (X i).T] 3)) = .ok v' w3 := hap
                      have HR : Hid (EnR1 tb len w v' (.int .i64 ((i : Int) + 1)) w3) := ⟨i + 1, T ++ [(X i).T], O4, S4, k + 4, by simp, by omega, by omega, by rw [List.length_append, List.length_singleton]; omega, by omega, hS3⟩
                      clear h4 h4n hmem hS3
                      go_wp2_with (first | (go_at_call 23; refine (unhide HH).mono ?_; rintro e w' ⟨rfl, rfl⟩))
                      all_goals exact ⟨unhide HR, by simp [intOf]; omega⟩
              · have HR : Hid (EnR1 tb len w u6 (.int .i64 ((i : Int) + 1)) wr) := ⟨i + 1, T, O, S, k, by simp, by omega, by omega, by omega, by omega, hS⟩
                clear hS
                go_wp2_with fail
                go_roundw
                case rel => exact unhide HR
                case measure => simp [intOf]; omega
            · have hilI : (i : Int) < (len : Int) := by omega
              have hi2I : ¬ ((i : Int) < 60) := by omega
              have HE : Hid (∃ T O S k, EnS tb w T T u6 O S k wr ∧ T.length ≤ 60 ∧ k ≤ 240) := ⟨T, O, S, k, hS, by omega, by omega⟩
              clear hS
              go_wp2_with fail
              go_meet
              exact unhide HE
          · have hilI : ¬ ((i : Int) < (len : Int)) := by omega
            have HE : Hid (∃ T O S k, EnS tb w T T u6 O S k wr ∧ T.length ≤ 60 ∧ k ≤ 240) := ⟨T, O, S, k, hS, by omega, by omega⟩
            clear hS
            go_wp2_with fail
            go_meet
            exact unhide HE
      case rest =>
        obtain ⟨T, O, S, k, hS, hT, hk⟩ := hcut
        have H2 := hide (EnR2.start (m := m) hS hT hk)
        clear hS hT hk HN H0
        go_upto_block 2 with fail
        go_cut [6, 8] (fun vt _ wx => ∃ O S k, EnS tb w [] [] vt O S k wx)
        case first =>
          go_wp2_with fail
          go_loopw [6, 8] (fun vt vr wr => EnR2 tb m w vt vr wr) (fun _ vr _ => 4000 - (intOf vr).toNat)
          case atStart => exact unhide H2
          case round =>
            obtain ⟨r, c2, k, T, O, S, rfl, hS⟩ := hrel
            have hr4 := hS.few (by omega)
            have hr4I : (r : Int) < 4000 := by omega
            by_cases hT0 : T = []
            · subst hT0
              obtain ⟨g, cp, rfl⟩ := hS.en.row.len
              have HE := hide hS.en
              clear hS
              go_wp2_with fail
              go_meet
              exact ⟨_, _, _, unhide HE⟩
            · obtain ⟨g, cp, rfl, hcp, hg, hB, hOg, hcells⟩ := hS.en.row.form hT0
              have hN0 : 0 < T.length := List.length_pos_iff.2 hT0
              have hN60 := hS.len
              have hNI : (0 : Int) < (T.length : Int) := by omega
              by_cases hr : r < m
              · have hrI : (r : Int) < (m : Int) := by omega
                obtain ⟨q, oo, z, rfl, hq, hz⟩ := unhide HO r hr
                have hz2 := (hS.en.bel.cell (p := ⟨q, oo + r, none⟩) hq).trans hz
                have hz3 := i64_and65535 z
                go_upto_region 20 with fail
                obtain ⟨i, hie⟩ : ∃ i : Nat, z % 65536 % (T.length : Int) = (i : Int) := ⟨(z % 65536 % (T.length : Int)).toNat, by have := Int.emod_nonneg (z % 65536) (b := (T.length : Int)) (by omega); omega⟩
                have hlt := Int.emod_lt_of_pos (z % 65536) hNI
                rw [hie]
                have hil : i < T.length := by omega
                obtain ⟨n, hn⟩ : ∃ n, T[i]? = some n := ⟨_, List.getElem?_eq_getElem hil⟩
                have hni := hS.en.ok n (List.mem_of_getElem? hn)
                have hd := hcells i n hn
                have HWt := hide (waits_tb O tb S wr hS.en.mem hS.en.tab n hni)
                have HG : Hid (∀ w0, Below wr.heap.size wr w0 → _) := fun w0 hb => hS.goes hil hn hb
                have HR : Hid (S.wt n ≠ none → ∀ w', Below wr.heap.size wr w' → EnR2 tb m w (.slice (some ⟨g, 0, none⟩) T.length cp) (.int .i64 ((r : Int) + 1)) w') := fun hw w' hb => hS.wait hT0 (fun hmr => absurd hmr (by omega)) hn hw hb
                have hilI : (i : Int) < (T.length : Int) := by omega
                have hcpI : (T.length : Int) ≤ (cp : Int) := by omega
                have hb0 : (0 : Int) ≤ (i : Int) := by omega
                have hb1 : (i : Int) ≤ (cp : Int) := by omega
                have hb2 : (0 : Int) ≤ (i : Int) + 1 := by omega
                have hb3 : (i : Int) + 1 ≤ (T.length : Int) := by omega
                have hb4 : (i : Int) ≤ 60 := by omega
                clear hS hcells hn
                cases hwt : S.wt n with
                | some x =>
                  have hw2 : S.waits n = (x.1, true) := by unfold St.waits; rw [hwt]
                  rw [hw2] at HWt
                  have HR2 := hide (unhide HR (by rw [hwt]; simp))
                  clear HG HR hwt hw2
                  go_wp2_with (first | (go_at_call 19; refine (unhide HWt).mono ?_; rintro e w7 ⟨rfl, hb7⟩; have HB7 := hide hb7; clear hb7))
                  all_goals exact ⟨unhide HR2 _ (unhide HB7), by simp [intOf]; omega⟩
                | none =>
                  have hw2 : S.waits n = (⟨#[]⟩, false) := by unfold St.waits; rw [hwt]
                  rw [hw2] at HWt
                  clear HR hwt hw2
                  go_upto_region 23 with (first | (go_at_call 19; refine (unhide HWt).mono ?_; rintro e w7 ⟨rfl, hb7⟩; have HB7 := hide hb7; clear hb7; rw [show wr.cell? ⟨g, i, none⟩ = w7.cell? ⟨g, i, none⟩ from ((unhide HB7).cell hg).symm] at hd) | (go_at_call 17; refine (unhide HG w7 (unhide HB7)).mono ?_; rintro e w8 ⟨⟨v8, rfl⟩, v9, w9, v10, w10, ha1, ha2, h10⟩; have H10 := hide h10; clear h10))
                  replace ha1 : ∀ ty, (app38 ty #[.slice (some ⟨w8.heap.size, 0, none⟩) 0 0, .slice (some ⟨g, 0, none⟩) i cp]).run Try.prog (w8.alloc (.cells #[] 3)).drew = .ok v9 w9 := ha1
                  have hwr : IntKind.i64.wrap ((i : Int) + 1) = (i : Int) + 1 := by rw [IntKind.wrap_i64]; omega
                  have hwt : ((i : Int) + 1).toNat = i + 1 := by omega
                  go_region_with fail
                  all_goals (try go_wp2_with fail)
                  all_goals exact ⟨unhide H10, by simp [intOf]; omega⟩
              · have hrI : ¬ ((r : Int) < (m : Int)) := by omega
                go_upto_region 20 with fail
                obtain ⟨i, hie, hi2⟩ : ∃ i : Nat, (r : Int) % (T.length : Int) = (i : Int) ∧ i = r % T.length := ⟨r % T.length, by simp, rfl⟩
                have hlt : i < T.length := by rw [hi2]; exact Nat.mod_lt _ hN0
                have HI := hide hi2
                clear hi2
                rw [hie]
                have hil : i < T.length := by omega
                obtain ⟨n, hn⟩ : ∃ n, T[i]? = some n := ⟨_, List.getElem?_eq_getElem hil⟩
                have hni := hS.en.ok n (List.mem_of_getElem? hn)
                have hd := hcells i n hn
                have HWt := hide (waits_tb O tb S wr hS.en.mem hS.en.tab n hni)
                have HG : Hid (∀ w0, Below wr.heap.size wr w0 → _) := fun w0 hb => hS.goes hil hn hb
                have HR : Hid (S.wt n ≠ none → ∀ w', Below wr.heap.size wr w' → EnR2 tb m w (.slice (some ⟨g, 0, none⟩) T.length cp) (.int .i64 ((r : Int) + 1)) w') := fun hw w' hb => hS.wait hT0 (fun _ => unhide HI) hn hw hb
                have hilI : (i : Int) < (T.length : Int) := by omega
                have hcpI : (T.length : Int) ≤ (cp : Int) := by omega
                have hb0 : (0 : Int) ≤ (i : Int) := by omega
                have hb1 : (i : Int) ≤ (cp : Int) := by omega
                have hb2 : (0 : Int) ≤ (i : Int) + 1 := by omega
                have hb3 : (i : Int) + 1 ≤ (T.length : Int) := by omega
                have hb4 : (i : Int) ≤ 60 := by omega
                clear hS hcells hn
                cases hwt : S.wt n with
                | some x =>
                  have hw2 : S.waits n = (x.1, true) := by unfold St.waits; rw [hwt]
                  rw [hw2] at HWt
                  have HR2 := hide (unhide HR (by rw [hwt]; simp))
                  clear HG HR hwt hw2
                  go_wp2_with (first | (go_at_call 19; refine (unhide HWt).mono ?_; rintro e w7 ⟨rfl, hb7⟩; have HB7 := hide hb7; clear hb7))
                  all_goals exact ⟨unhide HR2 _ (unhide HB7), by simp [intOf]; omega⟩
                | none =>
                  have hw2 : S.waits n = (⟨#[]⟩, false) := by unfold St.waits; rw [hwt]
                  rw [hw2] at HWt
                  clear HR hwt hw2
                  go_upto_region 23 with (first | (go_at_call 19; refine (unhide HWt).mono ?_; rintro e w7 ⟨rfl, hb7⟩; have HB7 := hide hb7; clear hb7; rw [show wr.cell? ⟨g, i, none⟩ = w7.cell? ⟨g, i, none⟩ from ((unhide HB7).cell hg).symm] at hd) | (go_at_call 17; refine (unhide HG w7 (unhide HB7)).mono ?_; rintro e w8 ⟨⟨v8, rfl⟩, v9, w9, v10, w10, ha1, ha2, h10⟩; have H10 := hide h10; clear h10))
                  replace ha1 : ∀ ty, (app38 ty #[.slice (some ⟨w8.heap.size, 0, none⟩) 0 0, .slice (some ⟨g, 0, none⟩) i cp]).run Try.prog (w8.alloc (.cells #[] 3)).drew = .ok v9 w9 := ha1
                  have hwr : IntKind.i64.wrap ((i : Int) + 1) = (i : Int) + 1 := by rw [IntKind.wrap_i64]; omega
                  have hwt : ((i : Int) + 1).toNat = i + 1 := by omega
                  go_region_with fail
                  all_goals (try go_wp2_with fail)
                  all_goals exact ⟨unhide H10, by simp [intOf]; omega⟩
        case rest =>
          obtain ⟨O, S, k, hS⟩ := hcut
          obtain ⟨g0, cp0, rfl⟩ := hS.row.len
          have H3 := hide hS
          clear hS H2
          go_wp2_with fail
          go_loopw [12] (fun vi wr => EnR3 tb len w (.slice g0 ([] : List Int).length cp0) vi wr) (fun vi _ => len - (intOf vi).toNat)
          case atStart => exact ⟨0, O, S, k, rfl, Nat.zero_le _, Nat.zero_le _, unhide H3⟩
          case round =>
            obtain ⟨i, O, S, k, rfl, hi, hi60, hS⟩ := hrel
            by_cases hil : i < len
            · by_cases hi2 : i < 60
              · have hilI : (i : Int) < (len : Int) := by omega
                have hi2I : (i : Int) < 60 := by omega
                obtain ⟨g, o, rfl, e2, c0, c1, c2, c3, hT, hNs⟩ := unhide HA i hil
                have hbw := hS.bel
                have d1 := (hbw.cell (p := ⟨g, o + i * 4 + 1, none⟩) e2).trans c1
                have d2 := (hbw.cell (p := ⟨g, o + i * 4 + 2, none⟩) e2).trans c2
                have hNs4 : (X i).N.size ≤ 4000 := unhide HNM i hil (by omega)
                have hS2 := hS.below (Below.refl _ _).drew
                have hHO := holds_tb O tb S wr.drew hS2.mem hS2.tab (X i).T (X i).N hT (by unfold SOk maxLen; omega)
                have hno : S.holds (X i).T (X i).N = false := by
                  cases e : S.holds (X i).T (X i).N with
                  | false => rfl
                  | true => exact absurd (hS.few.hld (X i).N (X i).T (by simpa [St.holds] using e)) (by simp)
                rw [hno] at hHO
                have HH := hide hHO
                have HR : Hid (EnR3 tb len w (.slice g0 ([] : List Int).length cp0) (.int .i64 ((i : Int) + 1)) wr.drew) := ⟨i + 1, O, S, k, by simp, by omega, by omega, hS2⟩
                clear hS hS2 hHO hno c0 c1 c2 c3 hbw
                go_upto_region 27 with fail
                go_cut [153] (fun v wx => v = .bool false ∧ wx = wr.drew)
                case first =>
                  go_region_with (first | (go_at_call 21; refine (unhide HH).mono ?_; rintro e w6 ⟨rfl, hw6⟩; rw [hw6]; clear hw6 w6))
                  all_goals (try go_wp2_with fail)
                  all_goals go_meet
                  all_goals exact ⟨rfl, rfl⟩
                case rest =>
                  obtain ⟨rfl, rfl⟩ := hcut
                  go_wp2_with fail
                  all_goals exact ⟨unhide HR, by simp [intOf]; omega⟩
              · have hilI : (i : Int) < (len : Int) := by omega
                have hi2I : ¬ ((i : Int) < 60) := by omega
                have HB8 := hide hS.bel
                clear hS
                go_wp2_with (first | (go_at_call 10; refine (unhide HK _).mono ?_; rintro e w6 ⟨rfl, hb6⟩))
                go_ret
                exact ⟨rfl, (unhide HB8).trans (hb6.mono (unhide HB8).size)⟩
            · have hilI : ¬ ((i : Int) < (len : Int)) := by omega
              have HB8 := hide hS.bel
              clear hS
              go_wp2_with (first | (go_at_call 10; refine (unhide HK _).mono ?_; rintro e w6 ⟨rfl, hb6⟩))
              go_ret
              exact ⟨rfl, (unhide HB8).trans (hb6.mono (unhide HB8).size)⟩
    · go_ret
      exact ⟨rfl, (unhide HB1).trans (hb6.mono (unhide HB1).size)⟩
end Go.Proofs.Ytnlfmmempomcaaa
