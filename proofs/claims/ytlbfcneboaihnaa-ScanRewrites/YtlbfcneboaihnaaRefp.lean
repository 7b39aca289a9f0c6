/- The document's own Parse. -/
import Derived.Test.YtlbfcneboaihnaaParse
namespace Go.Proofs.Ytlbfcneboaihnaa
open Go.RowKit Go.Great
attribute [local go_sem] index_strIx
theorem over_fail {N n p : Nat} (h : Sha.W N p 1 ≠ 0) (hp : n ≤ p / 8) : ¬ N < 2 ^ (8 * n) := by
  have h1 := Sha.W_pos_big h
  have h2 : 2 ^ (8 * n) ≤ 2 ^ p := Nat.pow_le_pow_right (by omega) (by omega)
  omega
theorem W_bit (N t j d : Nat) (hj : j < 5) (hd : Sha.W N (5 * t) 5 = d) : d / 2 ^ j % 2 = Sha.W N (5 * t + j) 1 := by
  rw [← hd, Sha.W_high N (5 * t) 5 j (by omega)]
  exact Sha.W_low N (5 * t + j) (5 - j) 1 (by omega)
theorem or_bit8 (y r : Nat) (hy : y < 256) (hr : r < 8) : bits .or .u8 (y : Int) (2 ^ r % 256) = ((y ||| 2 ^ r : Nat) : Int) := by
  have h1 : 2 ^ r ≤ 2 ^ 7 := Nat.pow_le_pow_right (by omega) (by omega)
  have e : ((2 : Int) ^ r % 256) = ((2 ^ r : Nat) : Int) := by
    have e1 : ((2 : Int) ^ r) = ((2 ^ r : Nat) : Int) := by push_cast; rfl
    rw [e1]; generalize 2 ^ r = q at *; omega
  rw [e, u8_or_nat _ _ hy (by omega)]
set_option maxRecDepth 20000 in
set_option maxHeartbeats 1000000 in
theorem parseRef_main (s : ByteArray) (n : Nat) (w : World) (hl : s.size = Sha.lenOf n) (hmax : n ≤ 600) :
    Calls Try.prog 47 #[.string s, .int .i64 (n : Int)] w fun e w' => Below w.heap.size w w' ∧
      ((Sha.good (bytesOf s) n ∧ ∃ v, e = .returned (.tuple #[v, .int .i64 0]) ∧ OwnB w' w.heap.size v (Sha.bytesL n (Sha.dnum (bytesOf s)))) ∨
       (¬ Sha.good (bytesOf s) n ∧ e = .returned (.tuple #[.slice none 0 0, .int .i64 3]))) := by
  obtain ⟨S, hS⟩ : ∃ S, S = bytesOf s := ⟨_, rfl⟩
  obtain ⟨N, hN⟩ : ∃ N, N = Sha.dnum S := ⟨_, rfl⟩
  obtain ⟨L, hL⟩ : ∃ L, L = s.size := ⟨_, rfl⟩
  have hSl : S.length = L := by rw [hS, hL, bytesOf_length]
  have HIx : Hid (∀ i, i < L → ∀ w, (strIx s (.int .i64 (i : Int))).run Try.prog w = .ok (.int .u8 ((Sha.nth S i : Nat) : Int)) w) := fun i hi w => by rw [hS]; exact run_strIx w s i (by omega)
  have HD : Hid (∀ t, t < L → Sha.isD (Sha.nth S (L - 1 - t)) = true → Sha.W N (5 * t) 5 = Sha.vd (Sha.nth S (L - 1 - t))) := fun t ht hd => by
    rw [hN]; rw [← hSl] at ht hd ⊢; exact Sha.dnum_digit S t ht hd
  have HNl : Hid (N < 2 ^ (5 * L)) := by rw [hN, ← hSl]; exact Sha.dnum_lt S
  have HG : Hid (Sha.good S n ↔ Sha.allD S ∧ N < 2 ^ (8 * n)) := by rw [hN]; exact Iff.rfl
  rw [← hS, ← hN]
  have hL1 : 8 * n ≤ 5 * L := by rw [hL, hl]; exact Sha.lenOf_le n
  have hL2 : 5 * L ≤ 8 * n + 4 := by rw [hL, hl]; unfold Sha.lenOf; omega
  have hll : L = Sha.lenOf n := by rw [hL, hl]
  have hsz : s.size = L := hL.symm
  obtain ⟨G, hGd⟩ : ∃ G : Nat → List Nat, G = Sha.rowG n N := ⟨_, rfl⟩
  have HGl : Hid (∀ p, (G p).length = n) := fun p => by rw [hGd]; exact Sha.rowG_length n N p
  have HG0 : Hid (E8 (zs n) = E8 (G 0)) := by rw [hGd, Sha.rowG_zero]; rfl
  have HGe : Hid (Sha.bytesL n N = G (5 * L)) := by rw [hGd, Sha.rowG_full n N _ hL1]; exact rfl
  have HGk : Hid (∀ p, Sha.W N p 1 = 0 → G (p + 1) = G p) := fun p h => by rw [hGd]; exact Sha.rowG_skip n N p h
  have HGc : Hid (∀ p, p / 8 < n → Sha.nth (G p) (p / 8) = Sha.cellG N p (p / 8)) := fun p h => by rw [hGd]; exact Sha.rowG_nth n N p _ h
  have HGs : Hid (∀ p x, Sha.W N p 1 = 1 → x = Sha.cellG N p (p / 8) ||| 2 ^ (p % 8) → (G p).set (p / 8) x = G (p + 1)) := fun p x h hx => by rw [hGd]; exact Sha.rowG_set n N p x h hx
  have HLe := hide hll
  have HSl := hide hSl
  clear hN hS hL hl hGd hll hSl
  have hd1 : decide ((n : Int) < 0) = false := by simp
  have hd2 : decide ((16777216 : Int) < (n : Int)) = false := by simp; omega
  have hne : ((L : Int) != (L : Int)) = false := by simp
  have hnm : (n : Int) ≤ 65536 := by omega
  go_enter Try.func47, Try.ntmps47
  go_wp2_with (go_at_call 61; refine (lenRef_n n (by omega) _).mono ?_; rintro e w' ⟨rfl, hw'⟩; rw [hw', ← unhide HLe]; clear hw' w')
  go_loopw [7] (fun vi wr => ∃ t : Nat, t ≤ L ∧ vi = .int .i64 (t : Int) ∧ wr = w.alloc (.cells (E8 (G (5 * t))) 5) ∧ Hid (Sha.W N (8 * n) (5 * t - 8 * n) = 0) ∧ Hid (∀ i, L - t ≤ i → i < L → Sha.isD (Sha.nth S i) = true)) (fun vi _ => L - (intOf vi).toNat)
  case atStart => exact ⟨0, by omega, rfl, by rw [← unhide HG0], by rw [Nat.mul_zero, Nat.zero_sub]; exact Sha.W_zero _ _, fun i h1 h2 => by omega⟩
  case round =>
    obtain ⟨t, ht, rfl, rfl, hov, hall⟩ := hrel
    by_cases hlt : t < L
    · obtain ⟨I, hI⟩ : ∃ I, I + 1 + t = L := ⟨L - 1 - t, by omega⟩
      have hix := unhide HIx I (by omega)
      have hLI : (L : Int) - 1 - (t : Int) = (I : Int) := by omega
      have HDt := hide (unhide HD t hlt)
      rw [show L - 1 - t = I by omega] at HDt
      generalize hX : Sha.nth S I = x at *
      have HXI := hide hX
      clear hX
      cases hD : Sha.isD x with
      | false =>
        go_wp2_with (go_at_call 62; refine (value_any x _).mono ?_; rintro e w' ⟨v, rfl, hv, hw'⟩; rcases hv with ⟨hv1, hv2⟩ | ⟨hv1, rfl⟩; (exact absurd (hD.symm.trans hv1) (by simp)); rw [hw']; clear hw' hv1 w')
        go_ret2
        refine ⟨(Below.refl _ _).alloc (Nat.le_refl _) _, .inr ⟨fun hg => ?_, rfl⟩⟩
        have := ((unhide HG).1 hg).1 I (by rw [unhide HSl]; omega)
        rw [unhide HXI, hD] at this; cases this
      | true =>
        have hvl : Sha.vd x < 32 := Sha.vd_lt hD
        have HDx := hide (unhide HDt hD)
        generalize hVD : Sha.vd x = d at *
        go_wp2_with (go_at_call 62; refine (value_any x _).mono ?_; rintro e w' ⟨v, rfl, hv, hw'⟩; rcases hv with ⟨hv1, rfl⟩ | ⟨hv1, hv2⟩; rotate_left; (exact absurd (hD.symm.trans hv1) (by simp)); rw [hw', hVD]; clear hw' hv1 w')
        go_loopw [9] (fun vj wr => ∃ j : Nat, j ≤ 5 ∧ vj = .int .i64 (j : Int) ∧ wr = w.alloc (.cells (E8 (G (5 * t + j))) 5) ∧ Hid (Sha.W N (8 * n) (5 * t + j - 8 * n) = 0)) (fun vj _ => 5 - (intOf vj).toNat)
        case atStart => exact ⟨0, by omega, rfl, rfl, hov⟩
        case round =>
          clear hov
          obtain ⟨j, hj, rfl, rfl, hov⟩ := hrel
          by_cases hj5 : j < 5
          · have hbit := W_bit N t j d hj5 (unhide HDx)
            have hdj : d / 2 ^ j < 32 := Nat.lt_of_le_of_lt (Nat.div_le_self _ _) hvl
            have band : bits .and .i64 ((d : Int) / 2 ^ j) 1 = ((Sha.W N (5 * t + j) 1 : Nat) : Int) := by
              have e : ((d : Int) / 2 ^ j) = ((d / 2 ^ j : Nat) : Int) := by push_cast; rfl
              rw [e, and_one _ (by omega), hbit]
            have hp : 5 * (t : Int) + (j : Int) = ((5 * t + j : Nat) : Int) := by omega
            have hGk := hide (unhide HGk (5 * t + j))
            have hGc := hide (unhide HGc (5 * t + j))
            have hGs := hide (unhide HGs (5 * t + j))
            have hGl := unhide HGl (5 * t + j)
            have hw2 : Sha.W N (5 * t + j) 1 < 2 := Sha.W_lt N (5 * t + j) 1
            have hcl : Sha.cellG N (5 * t + j) ((5 * t + j) / 8) < 256 := Sha.cellG_lt N _ _
            generalize hP : 5 * t + j = p at *
            have HP := hide hP
            clear hP hbit
            by_cases hb0 : Sha.W N p 1 = 0
            · rw [hb0] at band
              have hov2 := hide (Sha.over_skip n N p hb0 (unhide hov))
              have hGk' := hide (unhide hGk hb0)
              clear hcl
              go_wp2
              go_roundw
              case rel => exact ⟨j + 1, by omega, by go_num, by rw [← Nat.add_assoc, unhide HP, unhide hGk'], by rw [← Nat.add_assoc, unhide HP]; exact hov2⟩
              case measure => simp [intOf]; omega
            · have hb1 : Sha.W N p 1 = 1 := by omega
              rw [hb1] at band
              by_cases hpn : p / 8 < n
              · have hdp : decide ((n : Int) ≤ (p : Int) / 8) = false := by simp; omega
                have hcell := unhide hGc hpn
                have hGs' := hide (fun x => unhide hGs x hb1)
                generalize hy : Sha.cellG N p (p / 8) = y at *
                clear hy
                have hp8 : p % 8 < 8 := by omega
                clear hb0 hb1
                have hor := or_bit8 y (p % 8) hcl hp8
                have hset := hide (unhide hGs' _ rfl)
                have hov3 : Hid (Sha.W N (8 * n) (p + 1 - 8 * n) = 0) := by rw [show p + 1 - 8 * n = 0 by omega]; exact Sha.W_zero _ _
                generalize (y ||| 2 ^ (p % 8)) = z at *
                go_wp2
                go_roundw
                case rel => exact ⟨j + 1, by omega, by go_num, by rw [← Nat.add_assoc, unhide HP, ← unhide hset], by rw [← Nat.add_assoc, unhide HP]; exact hov3⟩
                case measure => simp [intOf]; omega
              · have hdp : decide ((n : Int) ≤ (p : Int) / 8) = true := by simp; omega
                have HF := hide (over_fail hb0 (show n ≤ p / 8 by omega))
                clear hcl
                go_wp2
                go_ret2
                exact ⟨(Below.refl _ _).alloc (Nat.le_refl _) _, .inr ⟨fun hg => unhide HF ((unhide HG).1 hg).2, rfl⟩⟩
          · obtain rfl : j = 5 := by omega
            go_wp2
            go_roundw
            case rel => exact ⟨t + 1, by omega, by go_num, rfl, hov, fun i h1 h2 => by
              by_cases hi : i = I
              · rw [hi, unhide HXI]; exact hD
              · exact unhide hall i (by omega) h2⟩
            case measure => simp [intOf]; omega
    · obtain rfl : t = L := by omega
      have HAll : Hid (Sha.allD S) := fun i hi => unhide hall i (by omega) (by rw [← unhide HSl]; exact hi)
      have HZ : Hid (N < 2 ^ (8 * n)) := (Sha.W_top_zero (N := N) (p := 8 * n) (q := 5 * t - 8 * n) (by rw [show 8 * n + (5 * t - 8 * n) = 5 * t by omega]; exact unhide HNl)).1 (unhide hov)
      go_wp2
      go_ret2
      exact ⟨(Below.refl _ _).alloc (Nat.le_refl _) _, .inl ⟨(unhide HG).2 ⟨unhide HAll, unhide HZ⟩, _, rfl, w.heap.size, [], by rw [List.append_nil, unhide HGe, unhide HGl]; rfl, Nat.le_refl _, by rw [List.append_nil, unhide HGe]; exact heap_alloc_last w _⟩⟩
end Go.Proofs.Ytlbfcneboaihnaa
