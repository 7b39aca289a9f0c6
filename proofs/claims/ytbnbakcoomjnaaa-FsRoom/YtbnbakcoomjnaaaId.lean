/- The law FsRoom, walked. -/
import Derived.Test.YtbnbakcoomjnaaaIc
namespace Go.Proofs.Ytbnbakcoomjnaaa
open Go.RowKit Go.Maps
set_option linter.unusedSimpArgs false
/-- Between the rounds of the law. -/
def RoomR (w : World) (R n : Nat) (x : Value) (wr : World) : Prop := ∃ k : Nat, k ≤ n ∧ x = .int .i64 (k : Int) ∧ ∃ S O, Stand w wr S O (3 * k) ∧ RI S R k
set_option maxRecDepth 20000 in
set_option maxHeartbeats 8000000 in
theorem room_any (r : Int) (a : Option Addr) (g o n cap : Nat) (B : Nat → List UInt8) (w : World) (hn : n ≤ 281474976710656) (hR : ∀ i, i < n → a = some ⟨g, o, none⟩ ∧ g < w.heap.size ∧ RowAt w w.heap.size g o B i ∧ (B i).length ≤ 281474976710656) :
    Calls Try.prog 6 #[.int .i64 r, .slice a n cap] w fun e w' => e = .returned (.bool true) ∧ Below w.heap.size w w' := by
  have HR := hide hR
  clear hR
  have HK := hide (known_any w)
  go_enter Try.func6, Try.ntmps6
  go_wp2_with fail
  go_loop [5, 6] (fun s i => ∃ k : Nat, k ≤ n ∧ i = .int .i64 (k : Int) ∧ s = .int .i64 ((tot B k : Nat) : Int) ∧ (tot B k ≤ 281474976720000)) (fun _ i => n - (intOf i).toNat)
  case atStart => exact ⟨0, Nat.zero_le _, rfl, rfl, by simp [tot]⟩
  case round =>
    obtain ⟨k, hk, rfl, rfl, htb⟩ := hrel
    have HT : Hid (tot B (k + 1) = tot B k + 1 + (B k).length) := rfl
    by_cases hlt : k < n
    · by_cases hle : tot B k ≤ 8000
      · obtain ⟨rfl, hg, ⟨x, y, hcell, hrow⟩, hbl⟩ := unhide HR k hlt
        have HB := hide hbl
        clear hrow
        generalize hLB : (B k).length = L at *
        clear hLB
        have hL2 : (L : Int) ≤ 281474976710656 := by omega
        have hle2 : ((tot B k : Nat) : Int) ≤ 8000 := by omega
        go_wp2_with fail
        go_round
        case rel => exact ⟨k + 1, by omega, by go_num, by rw [unhide HT]; go_num, by rw [unhide HT]; omega⟩
        case measure => simp [intOf]; omega
      · have hI : (8000 : Int) < ((tot B k : Nat) : Int) := by omega
        generalize tot B k = tk at *
        go_wp2_with fail
        refine (unhide HK).mono ?_
        rintro e w' ⟨rfl, hb⟩
        go_wp2_with fail
        go_ret
        exact ⟨rfl, hb⟩
    · obtain rfl : k = n := by omega
      by_cases hok : tot B k ≤ 8000 ∧ 0 ≤ r ∧ r ≤ 5000 ∧ k ≤ 60
      case neg =>
        have hI : (8000 : Int) < ((tot B k : Nat) : Int) ∨ r < 0 ∨ 5000 < r ∨ (60 : Int) < (k : Int) := by omega
        have HI := hide hI
        clear hok hI
        by_cases i1 : (8000 : Int) < ((tot B k : Nat) : Int)
        all_goals by_cases i2 : r < 0
        all_goals by_cases i3 : 5000 < r
        all_goals by_cases i4 : (60 : Int) < (k : Int)
        all_goals try (exfalso; have := unhide HI; omega)
        all_goals
          generalize tot B k = tk at *
          go_wp2_with fail
          refine (unhide HK).mono ?_
          rintro e w' ⟨rfl, hb⟩
          go_wp2_with fail
          go_ret
          exact ⟨rfl, hb⟩
      case pos =>
      obtain ⟨i1, i2, i3, i4⟩ := hok
      obtain ⟨R, rfl⟩ : ∃ R : Nat, r = (R : Int) := ⟨r.toNat, by omega⟩
      have j1 : ¬ ((8000 : Int) < ((tot B k : Nat) : Int)) := by omega
      have j2 : ¬ ((R : Int) < 0) := by omega
      have j3 : ¬ ((5000 : Int) < (R : Int)) := by omega
      have j4 : ¬ ((60 : Int) < (k : Int)) := by omega
      have HI := hide (And.intro i1 (And.intro i3 i4))
      have H0 : Hid (Calls Try.prog 9 #[.int .i64 (R : Int)] w fun e w' => e = .returned (.tuple #[.pointer (some ⟨w.heap.size, 0, none⟩), .int .i64 0]) ∧ Hid (RoomR w R k (.int .i64 0) w')) := by
        refine (new_ok R w (by omega)).mono ?_
        rintro e w' ⟨e1, h1, h2⟩
        exact ⟨e1, 0, Nat.zero_le _, rfl, Fs.new R, _, ⟨h1, h2, fun q e => by rw [e]; exact Nat.le_refl _⟩, RI.new R⟩
      have HTot := hide (fun i (hi : i < k) => tot_le B hi)
      clear i1 i2 i3 i4 htb HT hlt
      generalize tot B k = tk at *
      go_wp2_with fail
      refine (unhide H0).mono ?_
      rintro e w1 ⟨rfl, hX⟩
      go_wp2_with fail
      go_loopw [9] (fun x wr => RoomR w R k x wr) (fun x _ => k - (intOf x).toNat)
      case atStart => exact unhide hX
      case round =>
        obtain ⟨i, hi, rfl, S, O, hs, hri⟩ := hrel
        by_cases hlt : i < k
        · have HS := hide (And.intro hs hri)
          obtain ⟨rfl, hg, ⟨x, y, hcell, hrow⟩, hbl⟩ := unhide HR i hlt
          have hcellr : wr.cell? ⟨g, o + i, none⟩ = some (.slice x (B i).length y) := by rw [hs.below.cell (p := ⟨g, o + i, none⟩) hg]; exact hcell
          have HRow := hide hrow
          clear hs hri hrow hcell hX
          generalize hLB : (B i).length = L at *
          have HLB := hide hLB
          clear hLB
          obtain ⟨j, hj⟩ : ∃ j, j = i % 3 := ⟨_, rfl⟩
          have HJ : Hid (j < 3) := by show j < 3; omega
          obtain ⟨V, hV⟩ : ∃ V, V = wr.alloc (.cells #[.int .u8 102, .int .u8 ((i : Int) % 3)] 5) := ⟨_, rfl⟩
          have hcv : (cv229 (.slice (some ⟨wr.heap.size, 0, none⟩) 2 2)).run Try.prog V = .ok (.string (fn j)) V := by
            have hnew : V.heap[wr.heap.size]? = some (.cells #[.int .u8 102, .int .u8 ((i : Int) % 3)] 5 (0, 0)) := by rw [hV]; exact heap_alloc_new wr _
            have := run_cv229 (w := V) (g := wr.heap.size) (c := 2) (d := [102, UInt8.ofNat j]) (fun p u hp => by
              rw [show (⟨wr.heap.size, 0, none⟩ : Addr).add p = ⟨wr.heap.size, p, none⟩ from by unfold Addr.add; split <;> simp_all]
              simp only [World.cell?, hnew]
              match p with
              | 0 => simpa [byteVals] using hp
              | 1 =>
                have e : ((UInt8.ofNat j).toNat : Int) = (i : Int) % 3 := by
                  have : (UInt8.ofNat j).toNat = j := by simp; omega
                  rw [this]; omega
                simp [byteVals] at hp
                rw [← hp]
                simp
                omega
              | p + 2 => simp [byteVals] at hp)
            exact this
          have HV : Hid (Stand w V S O (3 * i) ∧ RI S R i) := by
            have h := unhide HS
            refine ⟨?_, h.2⟩
            rw [hV]
            exact h.1.low ((Below.refl _ _).alloc (Nat.le_refl _) _)
          rw [hV] at hcv
          have HLe : Hid (L ≤ 8000) := by
            have h1 := unhide HTot i hlt
            have h2 := (unhide HI).1
            rw [unhide HLB] at h1
            show L ≤ 8000
            omega
          have HR1 : Hid (Calls Try.prog 15 #[.pointer (some ⟨w.heap.size, 0, none⟩), .string (fn j)] V fun e w' => ∃ a c er, e = .returned (.tuple #[.slice a (cont S (fn j)).length c, .int .i64 er]) ∧ Hid (Stand w w' S O (3 * i) ∧ Row w'.heap.size w' (.slice a (cont S (fn j)).length c) (cont S (fn j)))) := by
            have h := unhide HV
            refine (read_any w.heap.size S O (3 * i) (fn j) V h.1.fs (by rw [fn_size]; simp [maxLen])).mono ?_
            rintro e w' ⟨a, c, er, e1, h1, h2, h3⟩
            exact ⟨a, c, er, e1, h.1.low h3, h1⟩
          rw [hV] at HR1
          have HCell : Hid (∀ X, Below w.heap.size w X → X.cell? ⟨g, o + i, none⟩ = some (.slice x L y)) := by
            intro X hb
            have hcw : w.cell? ⟨g, o + i, none⟩ = some (.slice x L y) := by
              rw [← (unhide HS).1.below.cell (p := ⟨g, o + i, none⟩) hg]; exact hcellr
            rw [hb.cell (p := ⟨g, o + i, none⟩) hg]; exact hcw
          have hcl := cont_len (unhide HS).2 (fn j)
          obtain ⟨U, hU⟩ : ∃ U : Nat, S.now.u = (U : Int) := ⟨_, (unhide HS).2.sum⟩
          have HU : Hid (S.now.u = (U : Int)) := hU
          have hUR : (U : Int) ≤ (R : Int) := by rw [← hU]; exact (unhide HS).2.le
          have hLWU : S.now.alone (fn j) ≤ U := by
            have h1 := (unhide HS).2.sum
            rw [hU] at h1
            have h2 : j = 0 ∨ j = 1 ∨ j = 2 := by have := unhide HJ; omega
            rcases h2 with rfl | rfl | rfl <;> omega
          generalize hLW : (cont S (fn j)).length = LW at *
          have HLW := hide hLW
          rw [← hcl] at hLWU
          have HAL : Hid (S.now.alone (fn j) = LW) := hcl.symm
          have HBd : Hid (U ≤ 5000 ∧ LW ≤ U ∧ L ≤ 8000 ∧ U ≤ R) := ⟨by have := (unhide HI).2.1; omega, hLWU, unhide HLe, by omega⟩
          have b1 : (U : Int) ≤ 5000 := by have := (unhide HBd).1; omega
          have b2 : (LW : Int) ≤ (U : Int) := by omega
          have b3 : (L : Int) ≤ 8000 := by have := unhide HLe; omega
          clear hcellr hV hj hcl hU hLW hLWU
          go_wp2_with fail
          refine (unhide HR1).mono ?_
          rintro e w2 ⟨wa, wc, er, rfl, hX2⟩
          have HU2 : Hid (Calls Try.prog 25 #[.pointer (some ⟨w.heap.size, 0, none⟩)] w2 fun e w' => e = .returned (.int .i64 (U : Int)) ∧ Hid (Stand w w' S O (3 * i) ∧ Row w'.heap.size w' (.slice wa LW wc) (cont S (fn j)))) := by
            obtain ⟨hs, hr⟩ := unhide hX2
            refine (used_ok w.heap.size S O (3 * i) w2 hs.fs).mono ?_
            rintro e w' ⟨e1, _, h3⟩
            rw [unhide HU] at e1
            exact ⟨e1, hs.low h3, hr.stays h3⟩
          clear hX2 hcv
          go_wp2_with fail
          refine (unhide HU2).mono ?_
          rintro e w3 ⟨rfl, hX3⟩
          have hc3 := unhide HCell w3 (unhide hX3).1.below
          by_cases hfit : (U : Int) - (LW : Int) + (L : Int) ≤ (R : Int)
          · have HW : Hid (Calls Try.prog 10 #[.pointer (some ⟨w.heap.size, 0, none⟩), .string (fn j), .slice x L y] w3 fun e w' => e = .returned (.int .i64 0) ∧ ∃ S' O', Hid (Stand w w' S' O' (3 * (i + 1)) ∧ RI S' R (i + 1) ∧ cont S' (fn j) = B i)) := by
              obtain ⟨hs, hr⟩ := unhide hX3
              have hri := (unhide HS).2
              have hrow := unhide HRow
              have hlb := unhide HLB
              have hk60 := (unhide HI).2.2
              have hL8 := unhide HLe
              rw [← hlb] at hrow ⊢
              refine (write_ok w.heap.size S O (3 * i) (fn j) x y (B i) _ w3 hs.fs (by omega) (by rw [hri.fuse]; simp) (by have := hri.pend; omega) (by rw [fn_size]; omega) (by omega) (by rw [unhide HU, unhide HAL, hri.room, hlb]; exact hfit) (hrow.below hs.below) hs.below.size).mono ?_
              rintro e w' ⟨e1, z, O', hz, h1, h2⟩
              exact ⟨e1, _, O', hs.step h2 h1, hri.write (unhide HJ) hz (by rw [unhide HU, unhide HAL, hlb]; exact hfit), cont_write hri hz⟩
            clear hX3 HU2 HR1 HS HV
            go_wp2_with fail
            refine (unhide HW).mono ?_
            rintro e w4 ⟨rfl, S', O', hX4⟩
            have HR2 : Hid (Calls Try.prog 15 #[.pointer (some ⟨w.heap.size, 0, none⟩), .string (fn j)] w4 fun e w' => ∃ a c er, e = .returned (.tuple #[.slice a L c, .int .i64 er]) ∧ Hid (Stand w w' S' O' (3 * (i + 1)) ∧ RI S' R (i + 1) ∧ Row w'.heap.size w' (.slice a L c) (B i))) := by
              obtain ⟨hs, hri, hc⟩ := unhide hX4
              refine (read_any w.heap.size S' O' (3 * (i + 1)) (fn j) w4 hs.fs (by rw [fn_size]; simp [maxLen])).mono ?_
              rintro e w' ⟨a, c, er, e1, h1, h2, h3⟩
              rw [hc, unhide HLB] at e1 h1
              exact ⟨a, c, er, e1, hs.low h3, hri, h1⟩
            clear hX4 HW
            go_wp2_with fail
            refine (unhide HR2).mono ?_
            rintro e w5 ⟨ba, bc, er2, rfl, hX5⟩
            have hc5 := unhide HCell w5 (unhide hX5).1.below
            obtain ⟨U', hU'⟩ : ∃ U' : Nat, S'.now.u = (U' : Int) := ⟨_, (unhide hX5).2.1.sum⟩
            have b4 : (U' : Int) ≤ (R : Int) := by rw [← hU']; exact (unhide hX5).2.1.le
            have HU3 : Hid (Calls Try.prog 25 #[.pointer (some ⟨w.heap.size, 0, none⟩)] w5 fun e w' => e = .returned (.int .i64 (U' : Int)) ∧ Hid (Stand w w' S' O' (3 * (i + 1)) ∧ RI S' R (i + 1) ∧ Row w'.heap.size w' (.slice ba L bc) (B i))) := by
              obtain ⟨hs, hri, hr⟩ := unhide hX5
              refine (used_ok w.heap.size S' O' (3 * (i + 1)) w5 hs.fs).mono ?_
              rintro e w' ⟨e1, _, h3⟩
              rw [hU'] at e1
              exact ⟨e1, hs.low h3, hri, hr.stays h3⟩
            clear hX5 HR2 hU' hc3
            go_wp2_with fail
            refine (unhide HU3).mono ?_
            rintro e w6 ⟨rfl, hX6⟩
            have hc6 := unhide HCell w6 (unhide hX6).1.below
            have HSm : Hid (Calls Try.prog 16 #[.slice ba L bc, .slice x L y] w6 fun e w' => e = .returned (.bool true) ∧ Hid (RoomR w R k (.int .i64 ((i : Int) + 1)) w')) := by
              obtain ⟨hs, hri, hr⟩ := unhide hX6
              have hrow := unhide HRow
              have hlb := unhide HLB
              have hL8 := unhide HLe
              refine (same_any _ _ ba x L L bc y (B i) (B i) w6 hr (hrow.below hs.below) hlb hlb (by omega) (by omega)).mono ?_
              rintro e w' ⟨⟨q, rfl⟩, h2⟩
              refine ⟨by rw [h2]; simp, i + 1, by omega, by go_num, S', O', hs.low ⟨rfl, rfl, rfl, Nat.le_refl _, fun _ _ => rfl⟩, hri⟩
            clear hX6 HU3 hc5
            go_wp2_with fail
            refine (unhide HSm).mono ?_
            rintro e w7 ⟨rfl, hX7⟩
            go_wp2_with fail
            go_roundw
            case rel => exact unhide hX7
            case measure => simp [intOf]; omega
          · have HW : Hid (Calls Try.prog 10 #[.pointer (some ⟨w.heap.size, 0, none⟩), .string (fn j), .slice x L y] w3 fun e w' => e = .returned (.int .i64 6) ∧ Hid (Stand w w' S O (3 * i) ∧ Row w'.heap.size w' (.slice wa LW wc) (cont S (fn j)))) := by
              obtain ⟨hs, hr⟩ := unhide hX3
              have hri := (unhide HS).2
              have hlb := unhide HLB
              have hk60 := (unhide HI).2.2
              have hL8 := unhide HLe
              rw [← hlb]
              refine (write_full w.heap.size S O (3 * i) (fn j) x y (B i) w3 hs.fs (by omega) (by rw [hri.fuse]; simp) (by rw [fn_size]; omega) (by omega) (by rw [unhide HU, unhide HAL, hri.room, hlb]; omega)).mono ?_
              rintro e w' ⟨e1, _, h3⟩
              exact ⟨e1, hs.low h3, hr.stays h3⟩
            have HRI := hide (unhide HS).2
            clear hX3 HU2 HR1 HS HV
            go_wp2_with fail
            refine (unhide HW).mono ?_
            rintro e w4 ⟨rfl, hX4⟩
            have HR2 : Hid (Calls Try.prog 15 #[.pointer (some ⟨w.heap.size, 0, none⟩), .string (fn j)] w4 fun e w' => ∃ a c er, e = .returned (.tuple #[.slice a LW c, .int .i64 er]) ∧ Hid (Stand w w' S O (3 * i) ∧ Row w'.heap.size w' (.slice wa LW wc) (cont S (fn j)) ∧ Row w'.heap.size w' (.slice a LW c) (cont S (fn j)))) := by
              obtain ⟨hs, hr⟩ := unhide hX4
              refine (read_any w.heap.size S O (3 * i) (fn j) w4 hs.fs (by rw [fn_size]; simp [maxLen])).mono ?_
              rintro e w' ⟨a, c, er, e1, h1, h2, h3⟩
              rw [unhide HLW] at e1 h1
              exact ⟨a, c, er, e1, hs.low h3, hr.stays h3, h1⟩
            clear hX4 HW
            go_wp2_with fail
            refine (unhide HR2).mono ?_
            rintro e w5 ⟨ba, bc, er2, rfl, hX5⟩
            have hc5 := unhide HCell w5 (unhide hX5).1.below
            have HU3 : Hid (Calls Try.prog 25 #[.pointer (some ⟨w.heap.size, 0, none⟩)] w5 fun e w' => e = .returned (.int .i64 (U : Int)) ∧ Hid (Stand w w' S O (3 * i) ∧ Row w'.heap.size w' (.slice wa LW wc) (cont S (fn j)) ∧ Row w'.heap.size w' (.slice ba LW bc) (cont S (fn j)))) := by
              obtain ⟨hs, hr, hr2⟩ := unhide hX5
              refine (used_ok w.heap.size S O (3 * i) w5 hs.fs).mono ?_
              rintro e w' ⟨e1, _, h3⟩
              rw [unhide HU] at e1
              exact ⟨e1, hs.low h3, hr.stays h3, hr2.stays h3⟩
            clear hX5 HR2 hc3
            go_wp2_with fail
            refine (unhide HU3).mono ?_
            rintro e w6 ⟨rfl, hX6⟩
            have HSm : Hid (Calls Try.prog 16 #[.slice ba LW bc, .slice wa LW wc] w6 fun e w' => e = .returned (.bool true) ∧ Hid (Stand w w' S O (3 * i))) := by
              obtain ⟨hs, hr, hr2⟩ := unhide hX6
              have hbd := unhide HBd
              refine (same_any _ _ ba wa LW LW bc wc (cont S (fn j)) (cont S (fn j)) w6 hr2 hr (unhide HLW) (unhide HLW) (by omega) (by omega)).mono ?_
              rintro e w' ⟨⟨q, rfl⟩, h2⟩
              exact ⟨by rw [h2]; simp, hs.low ⟨rfl, rfl, rfl, Nat.le_refl _, fun _ _ => rfl⟩⟩
            clear hX6 HU3 hc5
            go_wp2_with fail
            refine (unhide HSm).mono ?_
            rintro e w7 ⟨rfl, hX7⟩
            have HU4 : Hid (Calls Try.prog 25 #[.pointer (some ⟨w.heap.size, 0, none⟩)] w7 fun e w' => e = .returned (.int .i64 (U : Int)) ∧ Hid (RoomR w R k (.int .i64 ((i : Int) + 1)) w')) := by
              have hs := unhide hX7
              have hri := unhide HRI
              refine (used_ok w.heap.size S O (3 * i) w7 hs.fs).mono ?_
              rintro e w' ⟨e1, _, h3⟩
              rw [unhide HU] at e1
              have h4 := hs.low h3
              refine ⟨e1, i + 1, by omega, by go_num, S, O, ⟨?_, h4.below, h4.own⟩, ⟨hri.room, hri.fuse, Nat.le_trans hri.pend (Nat.le_succ _), hri.one, hri.inj, hri.sum, hri.le⟩⟩
              obtain ⟨K, n, l, pv, ps, hM, hk, he⟩ := h4.fs
              exact ⟨K, n, l, pv, ps, hM, by omega, he⟩
            clear hX7 HSm
            go_wp2_with fail
            refine (unhide HU4).mono ?_
            rintro e w8 ⟨rfl, hX8⟩
            go_wp2_with fail
            go_roundw
            case rel => exact unhide hX8
            case measure => simp [intOf]; omega
        · obtain rfl : i = k := by omega
          have HK2 := hide (known_any wr)
          have HB2 := hide hs.below
          clear hs hri hX
          go_wp2_with fail
          refine (unhide HK2).mono ?_
          rintro e w' ⟨rfl, hb⟩
          have HE : Hid (Below w.heap.size w w') := (unhide HB2).trans (hb.mono (unhide HB2).size)
          clear hb
          go_wp2_with fail
          go_ret
          exact ⟨rfl, unhide HE⟩
end Go.Proofs.Ytbnbakcoomjnaaa
