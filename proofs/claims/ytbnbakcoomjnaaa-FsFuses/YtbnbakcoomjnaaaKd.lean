/- The law FsFuses, walked. -/
import Derived.Test.YtbnbakcoomjnaaaKc
import Derived.Deep.RegionHeld3
namespace Go.Proofs.Ytbnbakcoomjnaaa
open Go.RowKit Go.Maps
set_option linter.unusedSimpArgs false
theorem below_drew {B : Nat} {w V : World} (h : Below B w V) : Below B w V.drew := ⟨h.os, h.tape, h.output, h.size, h.block⟩
theorem wrap8 (i : Nat) : IntKind.u8.wrap (i : Int) = ((UInt8.ofNat i).toNat : Int) := by
  simp [IntKind.wrap, IntKind.signed, IntKind.bits]
theorem wrap8d (i : Nat) : IntKind.u8.wrap ((i : Int) / 256) = ((UInt8.ofNat (i / 256)).toNat : Int) := by
  rw [← wrap8]
  simp
/-- The text of three bytes. -/
theorem cv_f3 {V : World} {q i : Nat} (hq : V.heap[q]? = some (.cells #[.int .u8 102, .int .u8 (IntKind.u8.wrap ((i : Int) / 256)), .int .u8 (IntKind.u8.wrap (i : Int))] 5 (0, 0))) : (cv229 (.slice (some ⟨q, 0, none⟩) 3 3)).run Try.prog V = .ok (.string (f3 i)) V := by
  rw [wrap8, wrap8d] at hq
  exact run_cv229 (w := V) (g := q) (c := 3) (d := [102, UInt8.ofNat (i / 256), UInt8.ofNat i]) (fun p u hp => by
    rw [show (⟨q, 0, none⟩ : Addr).add p = ⟨q, p, none⟩ from by unfold Addr.add; split <;> simp_all]
    simp only [World.cell?, hq]
    match p with
    | 0 => simpa [byteVals] using hp
    | 1 => simpa [byteVals] using hp
    | 2 => simpa [byteVals] using hp
    | p + 3 => simp [byteVals] at hp)
/-- Between the rounds of the law. -/
def FusesR (w : World) (B : Nat → List UInt8) (R n : Nat) (x : Value) (wr : World) : Prop := ∃ k : Nat, k ≤ n ∧ x = .int .i64 (k : Int) ∧ ∃ S O, Stand w wr S O (3 * min k R) ∧ FI S R (min k R) (tot B k)
theorem FusesR.below {w : World} {B : Nat → List UInt8} {R n : Nat} {x : Value} {wr : World} (h : FusesR w B R n x wr) : Below w.heap.size w wr := by
  obtain ⟨_, _, _, _, _, h, _⟩ := h
  exact h.below
set_option maxRecDepth 20000 in
set_option maxHeartbeats 8000000 in
theorem fuses_any (r : Int) (a : Option Addr) (g o n cap : Nat) (B : Nat → List UInt8) (w : World) (hn : n ≤ 281474976710656) (hR : ∀ i, i < n → a = some ⟨g, o, none⟩ ∧ g < w.heap.size ∧ RowAt w w.heap.size g o B i ∧ (B i).length ≤ 281474976710656) :
    Calls Try.prog 4 #[.int .i64 r, .slice a n cap] w fun e w' => e = .returned (.bool true) ∧ Below w.heap.size w w' := by
  have HR := hide hR
  clear hR
  have HK := hide (known_any w)
  go_enter Try.func4, Try.ntmps4
  go_wp2_with fail
  go_loop [5, 6] (fun s i => ∃ k : Nat, k ≤ n ∧ i = .int .i64 (k : Int) ∧ s = .int .i64 ((tot B k : Nat) : Int) ∧ (tot B k ≤ 281474976720000)) (fun _ i => n - (intOf i).toNat)
  case atStart => exact ⟨0, Nat.zero_le _, rfl, rfl, by simp [tot]⟩
  case round =>
    obtain ⟨k, hk, rfl, rfl, htb⟩ := hrel
    have HT : Hid (tot B (k + 1) = tot B k + 1 + (B k).length) := rfl
    by_cases hlt : k < n
    · by_cases hle : tot B k ≤ 8000
      · obtain ⟨rfl, hg, ⟨x, y, hcell, hrow⟩, hbl⟩ := unhide HR k hlt
        have HB := hide hbl
        clear hrow
        generalize hLB : (B k).length = L at *
        clear hLB
        have hL2 : (L : Int) ≤ 281474976710656 := by omega
        have hle2 : ((tot B k : Nat) : Int) ≤ 8000 := by omega
        go_wp2_with fail
        go_round
        case rel => exact ⟨k + 1, by omega, by go_num, by rw [unhide HT]; go_num, by rw [unhide HT]; omega⟩
        case measure => simp [intOf]; omega
      · have hI : (8000 : Int) < ((tot B k : Nat) : Int) := by omega
        generalize tot B k = tk at *
        go_wp2_with fail
        refine (unhide HK).mono ?_
        rintro e w' ⟨rfl, hb⟩
        go_wp2_with fail
        go_ret
        exact ⟨rfl, hb⟩
    · obtain rfl : k = n := by omega
      by_cases hok : tot B k ≤ 8000 ∧ 0 ≤ r ∧ r ≤ 1000
      case neg =>
        have hI : (8000 : Int) < ((tot B k : Nat) : Int) ∨ r < 0 ∨ 1000 < r := by omega
        have HI := hide hI
        clear hok hI
        by_cases i1 : (8000 : Int) < ((tot B k : Nat) : Int)
        all_goals by_cases i2 : r < 0
        all_goals by_cases i3 : 1000 < r
        all_goals try (exfalso; have := unhide HI; omega)
        all_goals
          generalize tot B k = tk at *
          go_wp2_with fail
          refine (unhide HK).mono ?_
          rintro e w' ⟨rfl, hb⟩
          go_wp2_with fail
          go_ret
          exact ⟨rfl, hb⟩
      case pos =>
      obtain ⟨i1, i2, i3⟩ := hok
      obtain ⟨R, rfl⟩ : ∃ R : Nat, r = (R : Int) := ⟨r.toNat, by omega⟩
      have j1 : ¬ ((8000 : Int) < ((tot B k : Nat) : Int)) := by omega
      have j2 : ¬ ((R : Int) < 0) := by omega
      have j3 : ¬ ((1000 : Int) < (R : Int)) := by omega
      have HI := hide (And.intro i1 i3)
      have H0 := hide (new_ok 1048576 w (by omega))
      have HTot := hide (fun i (hi : i < k) => tot_le B hi)
      have HTm : Hid (∀ i, i ≤ k → tot B i ≤ tot B k) := by
        have h : ∀ d i, tot B i ≤ tot B (i + d) := fun d i => by
          induction d with
          | zero => exact Nat.le_refl _
          | succ d ih => show tot B i ≤ tot B (i + d) + 1 + _; omega
        intro i hi
        have := h (k - i) i
        rw [show i + (k - i) = k by omega] at this
        exact this
      have HTk : Hid (k ≤ 8000) := by
        have h : ∀ i, i ≤ tot B i := fun i => by
          induction i with
          | zero => exact Nat.zero_le _
          | succ i ih => show i + 1 ≤ tot B i + 1 + _; omega
        have := h k
        show k ≤ 8000
        omega
      clear i1 i2 i3 htb HT hlt
      generalize htk : tot B k = tk at *
      have HTK := hide htk
      clear htk
      go_wp2_with fail
      refine (unhide H0).mono ?_
      rintro e w1 ⟨rfl, hX1, hX2⟩
      have HFu : Hid (Calls Try.prog 17 #[.pointer (some ⟨w.heap.size, 0, none⟩), .int .i64 (R : Int)] w1 fun e w' => e = .returned (.tuple #[]) ∧ Hid (FusesR w B R k (.int .i64 0) w')) := by
        refine (fuse_ok w.heap.size (Fs.new 1048576) _ 0 R w1 hX1 (by omega)).mono ?_
        rintro e w' ⟨e1, h1, h2⟩
        have hs : Stand w w1 (Fs.new 1048576) (fun q => q = w.heap.size) 0 := ⟨hX1, hX2, fun q e => by rw [e]; exact Nat.le_refl _⟩
        have e0 : min 0 R = 0 := Nat.zero_min _
        refine ⟨e1, 0, Nat.zero_le _, rfl, { Fs.new 1048576 with fuse := some R }, (fun q => q = w.heap.size), ?_, ?_⟩
        · rw [e0]; exact hs.step h2 h1
        · rw [e0]; exact FI.new R
      clear hX1 hX2
      go_wp2_with fail
      refine (unhide HFu).mono ?_
      rintro e w2 ⟨rfl, hX⟩
      go_wp2_with fail
      go_loopw [9] (fun x wr => FusesR w B R k x wr) (fun x _ => k - (intOf x).toNat)
      case atStart => exact unhide hX
      case round =>
        obtain ⟨i, hi, rfl, S, O, hs, hfi⟩ := hrel
        by_cases hlt : i < k
        · have HS := hide (And.intro hs hfi)
          obtain ⟨rfl, hg, ⟨x, y, hcell, hrow⟩, hbl⟩ := unhide HR i hlt
          have hcellr : wr.cell? ⟨g, o + i, none⟩ = some (.slice x (B i).length y) := by rw [hs.below.cell (p := ⟨g, o + i, none⟩) hg]; exact hcell
          have HRow := hide hrow
          clear hs hfi hrow hcell hX
          generalize hLB : (B i).length = L at *
          have HLB := hide hLB
          clear hLB
          have HCell : Hid (∀ X, Below w.heap.size w X → X.cell? ⟨g, o + i, none⟩ = some (.slice x L y)) := by
            intro X hb
            have hcw : w.cell? ⟨g, o + i, none⟩ = some (.slice x L y) := by
              rw [← (unhide HS).1.below.cell (p := ⟨g, o + i, none⟩) hg]; exact hcellr
            rw [hb.cell (p := ⟨g, o + i, none⟩) hg]; exact hcw
          have hnew : ∀ W : World, (W.alloc (.cells #[.int .u8 102, .int .u8 (IntKind.u8.wrap ((i : Int) / 256)), .int .u8 (IntKind.u8.wrap (i : Int))] 5)).heap[W.heap.size]? = some (.cells #[.int .u8 102, .int .u8 (IntKind.u8.wrap ((i : Int) / 256)), .int .u8 (IntKind.u8.wrap (i : Int))] 5 (0, 0)) := fun W => heap_alloc_new W _
          have hcv1 := cv_f3 (hnew wr)
          have hcv2 := cv_f3 (V := (wr.alloc (.cells #[.int .u8 102, .int .u8 (IntKind.u8.wrap ((i : Int) / 256)), .int .u8 (IntKind.u8.wrap (i : Int))] 5)).drew) (hnew wr)
          clear hnew
          have hca := unhide HCell (wr.alloc (.cells #[.int .u8 102, .int .u8 (IntKind.u8.wrap ((i : Int) / 256)), .int .u8 (IntKind.u8.wrap (i : Int))] 5)) ((unhide HS).1.below.trans (((Below.refl _ _).alloc (Nat.le_refl _) _).mono (unhide HS).1.below.size))
          have hcb : (wr.alloc (.cells #[.int .u8 102, .int .u8 (IntKind.u8.wrap ((i : Int) / 256)), .int .u8 (IntKind.u8.wrap (i : Int))] 5)).drew.cell? ⟨g, o + i, none⟩ = some (.slice x L y) := hca
          have hcd : wr.drew.cell? ⟨g, o + i, none⟩ = some (.slice x L y) := hcellr
          have hiR : Hid (L ≤ 8000 ∧ k ≤ 8000 ∧ R ≤ 1000 ∧ tot B i ≤ 8000) := by
            have h1 := unhide HTot i hlt
            have h2 := unhide HI
            have h3 := unhide HTm i (by omega)
            have h4 := unhide HTk
            rw [unhide HLB] at h1
            exact ⟨by omega, h4, by omega, by omega⟩
          by_cases hiR2 : i < R
          · have HW : Hid (∀ V, Below wr.heap.size wr V → Calls Try.prog 10 #[.pointer (some ⟨w.heap.size, 0, none⟩), .string (f3 i), .slice x L y] V fun e w' => e = .returned (.int .i64 0) ∧ Hid (FusesR w B R k (.int .i64 ((i : Int) + 1)) w')) := by
              intro V hb
              obtain ⟨hs0, hfi⟩ := unhide HS
              have hs := hs0.low hb
              have hrow := unhide HRow
              have hlb := unhide HLB
              obtain ⟨c1, c2, c3, c4⟩ := unhide hiR
              rw [show min i R = i by omega] at hs hfi
              have hfr := hfi.fresh (by omega)
              rw [← hlb] at hrow ⊢
              refine (write_ok w.heap.size S O (3 * i) (f3 i) x y (B i) _ V hs.fs (by omega) (by rw [hfi.fuse]; simp; omega) (by have := hfi.pend; omega) (by rw [f3_size]; omega) (by omega) (by have := hfi.use; rw [hfi.room]; omega) (hrow.below hs.below) hs.below.size).mono ?_
              rintro e w' ⟨e1, z, O', hz, h1, h2⟩
              refine ⟨e1, i + 1, by omega, by go_num, S.done (S.now.write (f3 i) (B i) z) (.write (f3 i) (B i) z), O', ?_, ?_⟩
              · rw [show min (i + 1) R = i + 1 by omega]
                exact hs.step h2 h1
              · rw [show min (i + 1) R = i + 1 by omega]
                exact hfi.write c3 hiR2 (B i) z
            clear HS hiR
            have hiI : (i : Int) < (R : Int) := by omega
            go_wp2_with fail
            go_region_with ((go_at_call 10; refine Calls.mono (unhide HW _ (by first | exact (Below.refl _ _).alloc (Nat.le_refl _) _ | exact below_drew ((Below.refl _ _).alloc (Nat.le_refl _) _))) ?_; rintro e w5 ⟨rfl, hX5⟩))
            all_goals
              go_wp2_with fail
              go_roundw
              case rel => exact unhide hX5
              case measure => simp [intOf]; omega
          · have HW : Hid (∀ V, Below wr.heap.size wr V → Calls Try.prog 10 #[.pointer (some ⟨w.heap.size, 0, none⟩), .string (f3 i), .slice x L y] V fun e w' => e = .returned (.int .i64 26) ∧ Hid (FusesR w B R k (.int .i64 ((i : Int) + 1)) w')) := by
              intro V hb
              obtain ⟨hs0, hfi⟩ := unhide HS
              have hs := hs0.low hb
              rw [show min i R = R by omega] at hs hfi
              refine (write_dead w.heap.size S O (3 * R) (f3 i) x L y V hs.fs (by rw [hfi.fuse]; simp)).mono ?_
              rintro e w' ⟨e1, h1, h2⟩
              refine ⟨e1, i + 1, by omega, by go_num, S, O, ?_, ?_⟩
              · rw [show min (i + 1) R = R by omega]
                exact hs.low h2
              · rw [show min (i + 1) R = R by omega]
                exact hfi.more (by show tot B i ≤ tot B i + 1 + _; omega)
            clear HS hiR
            have hiI : ¬ ((i : Int) < (R : Int)) := by omega
            go_wp2_with fail
            go_region_with ((go_at_call 10; refine Calls.mono (unhide HW _ (by first | exact (Below.refl _ _).alloc (Nat.le_refl _) _ | exact below_drew ((Below.refl _ _).alloc (Nat.le_refl _) _))) ?_; rintro e w5 ⟨rfl, hX5⟩))
            all_goals
              go_wp2_with fail
              go_roundw
              case rel => exact unhide hX5
              case measure => simp [intOf]; omega
        · obtain rfl : i = k := by omega
          obtain ⟨J, hJ⟩ : ∃ J, J = min i R := ⟨_, rfl⟩
          rw [← hJ] at hs hfi
          have hJR : J ≤ 1000 := by have := (unhide HI).2; omega
          have HN : Hid (Calls Try.prog 18 #[.pointer (some ⟨w.heap.size, 0, none⟩), .string ⟨#[]⟩] wr fun e w' => ∃ a cp, e = .returned (.slice a J cp) ∧ Hid (Stand w w' S O (3 * J))) := by
            refine (names_ok w.heap.size S O (3 * J) ⟨#[]⟩ wr hs.fs (by omega) hfi.small).mono ?_
            rintro e w' ⟨v, xs, e1, n1, n2, n3, ⟨a', cp, e2, _⟩, _, h3⟩
            rw [sortB_length, hfi.count hJR pfx_nil n1 n2 n3] at e2
            exact ⟨a', cp, by rw [e1, e2], hs.low h3⟩
          have HF := hide hfi
          have hJm : min (R : Int) (i : Int) = (J : Int) := by omega
          clear hs hfi hX
          go_wp2_with fail
          refine (unhide HN).mono ?_
          rintro e w3 ⟨na, nc, rfl, hX3⟩
          by_cases hlR : i < R
          · have HSy : Hid (Calls Try.prog 11 #[.pointer (some ⟨w.heap.size, 0, none⟩)] w3 fun e w' => e = .returned (.int .i64 0) ∧ ∃ S' O', Hid (Stand w w' S' O' (3 * J) ∧ S'.room = 1048576 ∧ S'.now = S.now)) := by
              have hs := unhide hX3
              have hfi := unhide HF
              refine (sync_ok w.heap.size S O (3 * J) w3 hs.fs (by omega) (by rw [hfi.fuse]; simp; omega)).mono ?_
              rintro e w' ⟨e1, O', h1, h2⟩
              exact ⟨e1, _, O', hs.step h2 h1, hfi.room, rfl⟩
            have hlI : (i : Int) < (R : Int) := by omega
            clear hX3 HN
            go_wp2_with fail
            refine (unhide HSy).mono ?_
            rintro e w4 ⟨rfl, S', O', hX4⟩
            have HCr : Hid (Calls Try.prog 14 #[.pointer (some ⟨w.heap.size, 0, none⟩), .int .i64 1048576] w4 fun e w' => e = .returned (.tuple #[]) ∧ ∃ O2, Hid (Stand w w' (S'.lasts none) O2 (3 * J) ∧ S'.room = 1048576 ∧ S'.now = S.now)) := by
              obtain ⟨hs, h1, h2⟩ := unhide hX4
              refine (crash_all w.heap.size S' O' (3 * J) w4 hs.fs (by omega)).mono ?_
              rintro e w' ⟨e1, O2, h3, h4⟩
              exact ⟨e1, O2, hs.step h4 h3, h1, h2⟩
            clear hX4 HSy
            go_wp2_with fail
            refine (unhide HCr).mono ?_
            rintro e w5 ⟨rfl, O2, hX5⟩
            have HW : Hid (Calls Try.prog 10 #[.pointer (some ⟨w.heap.size, 0, none⟩), .string ⟨#[122]⟩, .slice none 0 0] w5 fun e w' => e = .returned (.int .i64 0) ∧ Hid (Below w.heap.size w w')) := by
              obtain ⟨hs, h1, h2⟩ := unhide hX5
              have hu := (unhide HF).use
              have ht := unhide HTm i (Nat.le_refl _)
              have hi8 := (unhide HI).1
              refine (write_ok w.heap.size (S'.lasts none) O2 (3 * J) ⟨#[122]⟩ none 0 [] _ w5 hs.fs (by omega) (by simp [Fs.lasts]) (by simp [Fs.lasts]) (by simp [ByteArray.size]) (by simp) ?_ ⟨none, 0, rfl, Nat.le_refl _, fun h => by simp at h⟩ (Nat.le_refl _)).mono ?_
              · show S'.now.u - (S'.now.alone _ : Int) + ((0 : Nat) : Int) ≤ (S'.room : Int)
                rw [h1, h2]
                omega
              · rintro e w' ⟨e1, z, O', hz, h3, h4⟩
                exact ⟨e1, (hs.step h4 h3).below⟩
            clear hX5 HCr
            go_wp2_with fail
            refine (unhide HW).mono ?_
            rintro e w6 ⟨rfl, hX6⟩
            have HK2 := hide (known_any w6)
            go_wp2_with fail
            refine (unhide HK2).mono ?_
            rintro e w7 ⟨rfl, hb⟩
            have HE : Hid (Below w.heap.size w w7) := (unhide hX6).trans (hb.mono (unhide hX6).size)
            clear hb
            go_wp2_with fail
            go_ret
            exact ⟨rfl, unhide HE⟩
          · have HSy : Hid (Calls Try.prog 11 #[.pointer (some ⟨w.heap.size, 0, none⟩)] w3 fun e w' => e = .returned (.int .i64 26) ∧ ∃ S' O', Hid (Stand w w' S' O' (3 * J) ∧ S'.room = 1048576 ∧ S'.now = S.now)) := by
              have hs := unhide hX3
              have hfi := unhide HF
              refine (sync_dead w.heap.size S O (3 * J) w3 hs.fs (by rw [hfi.fuse]; simp; omega)).mono ?_
              rintro e w' ⟨e1, h1, h2⟩
              exact ⟨e1, S, O, hs.low h2, hfi.room, rfl⟩
            have hlI : ¬ ((i : Int) < (R : Int)) := by omega
            clear hX3 HN
            go_wp2_with fail
            refine (unhide HSy).mono ?_
            rintro e w4 ⟨rfl, S', O', hX4⟩
            have HCr : Hid (Calls Try.prog 14 #[.pointer (some ⟨w.heap.size, 0, none⟩), .int .i64 1048576] w4 fun e w' => e = .returned (.tuple #[]) ∧ ∃ O2, Hid (Stand w w' (S'.lasts none) O2 (3 * J) ∧ S'.room = 1048576 ∧ S'.now = S.now)) := by
              obtain ⟨hs, h1, h2⟩ := unhide hX4
              refine (crash_all w.heap.size S' O' (3 * J) w4 hs.fs (by omega)).mono ?_
              rintro e w' ⟨e1, O2, h3, h4⟩
              exact ⟨e1, O2, hs.step h4 h3, h1, h2⟩
            clear hX4 HSy
            go_wp2_with fail
            refine (unhide HCr).mono ?_
            rintro e w5 ⟨rfl, O2, hX5⟩
            have HW : Hid (Calls Try.prog 10 #[.pointer (some ⟨w.heap.size, 0, none⟩), .string ⟨#[122]⟩, .slice none 0 0] w5 fun e w' => e = .returned (.int .i64 0) ∧ Hid (Below w.heap.size w w')) := by
              obtain ⟨hs, h1, h2⟩ := unhide hX5
              have hu := (unhide HF).use
              have ht := unhide HTm i (Nat.le_refl _)
              have hi8 := (unhide HI).1
              refine (write_ok w.heap.size (S'.lasts none) O2 (3 * J) ⟨#[122]⟩ none 0 [] _ w5 hs.fs (by omega) (by simp [Fs.lasts]) (by simp [Fs.lasts]) (by simp [ByteArray.size]) (by simp) ?_ ⟨none, 0, rfl, Nat.le_refl _, fun h => by simp at h⟩ (Nat.le_refl _)).mono ?_
              · show S'.now.u - (S'.now.alone _ : Int) + ((0 : Nat) : Int) ≤ (S'.room : Int)
                rw [h1, h2]
                omega
              · rintro e w' ⟨e1, z, O', hz, h3, h4⟩
                exact ⟨e1, (hs.step h4 h3).below⟩
            clear hX5 HCr
            go_wp2_with fail
            refine (unhide HW).mono ?_
            rintro e w6 ⟨rfl, hX6⟩
            have HK2 := hide (known_any w6)
            go_wp2_with fail
            refine (unhide HK2).mono ?_
            rintro e w7 ⟨rfl, hb⟩
            have HE : Hid (Below w.heap.size w w7) := (unhide hX6).trans (hb.mono (unhide hX6).size)
            clear hb
            go_wp2_with fail
            go_ret
            exact ⟨rfl, unhide HE⟩
end Go.Proofs.Ytbnbakcoomjnaaa
