/- The code's Parse: a text as so many bytes. -/
import Derived.Test.YtlbfcneboaihnaaReft
namespace Go.Proofs.Ytlbfcneboaihnaa
open Go.RowKit Go.Great
attribute [local go_sem] index_strIx
theorem or_step5 (N e h t d : Nat) (h1 : h < 8) (hk : 8 * e + h = 5 * t) (hd : Sha.W N (5 * t) 5 = d) :
    bits .or .u32 ((Sha.W N (8 * e) h : Nat) : Int) ((d : Int) * 2 ^ h % 4294967296) = ((Sha.W N (8 * e) (h + 5) : Nat) : Int) := by
  have h2 : 2 ^ h ≤ 2 ^ 7 := Nat.pow_le_pow_right (by omega) (by omega)
  have h3 := Sha.W_lt N (8 * e) h
  have h4 : d < 32 := by rw [← hd]; exact Sha.W_lt N (5 * t) 5
  have h5 : d * 2 ^ h ≤ 31 * 2 ^ 7 := Nat.mul_le_mul (by omega) h2
  have e : ((d : Int) * 2 ^ h % 4294967296) = ((d * 2 ^ h : Nat) : Int) := by
    have e1 : ((d : Int) * 2 ^ h) = ((d * 2 ^ h : Nat) : Int) := by push_cast; rfl
    rw [e1]; generalize d * 2 ^ h = y at *; omega
  rw [e, u32_or_nat _ _ (by omega) (by omega), ← hd, ← hk, Sha.W_or]
theorem byte_step (N e h : Nat) (hh : 8 ≤ h) : ((Sha.W N (8 * e) h : Nat) : Int) % 256 = ((Sha.W N (8 * e) 8 : Nat) : Int) := by
  have := Sha.W_low N (8 * e) h 8 hh
  rw [← this]; omega
theorem shr_step8 (N e h : Nat) (hh : 8 ≤ h) : ((Sha.W N (8 * e) h : Nat) : Int) / 256 = ((Sha.W N (8 * (e + 1)) (h - 8) : Nat) : Int) := by
  have := Sha.W_high N (8 * e) h 8 hh
  rw [show 8 * (e + 1) = 8 * e + 8 by omega, ← this]; omega
set_option maxRecDepth 20000 in
set_option maxHeartbeats 1000000 in
theorem parse_main (s : ByteArray) (n : Nat) (w : World) (hl : s.size = Sha.lenOf n) (hmax : n ≤ 600) :
    Calls Try.prog 70 #[.string s, .int .i64 (n : Int)] w fun e w' => Below w.heap.size w w' ∧
      ((Sha.good (bytesOf s) n ∧ ∃ v, e = .returned (.tuple #[v, .int .i64 0]) ∧ OwnB w' w.heap.size v (Sha.bytesL n (Sha.dnum (bytesOf s)))) ∨
       (¬ Sha.good (bytesOf s) n ∧ e = .returned (.tuple #[.slice none 0 0, .int .i64 3]))) := by
  obtain ⟨S, hS⟩ : ∃ S, S = bytesOf s := ⟨_, rfl⟩
  obtain ⟨N, hN⟩ : ∃ N, N = Sha.dnum S := ⟨_, rfl⟩
  obtain ⟨L, hL⟩ : ∃ L, L = s.size := ⟨_, rfl⟩
  have hSl : S.length = L := by rw [hS, hL, bytesOf_length]
  have HX : Hid (∀ i, Sha.nth S i < 256) := fun i => by rw [hS]; exact (bytesOf_bytes s).at i
  have HIx : Hid (∀ i, i < L → ∀ w, (strIx s (.int .i64 (i : Int))).run Try.prog w = .ok (.int .u8 ((Sha.nth S i : Nat) : Int)) w) := fun i hi w => by rw [hS]; exact run_strIx w s i (by omega)
  have HD : Hid (∀ t, t < L → Sha.isD (Sha.nth S (L - 1 - t)) = true → Sha.W N (5 * t) 5 = Sha.vd (Sha.nth S (L - 1 - t))) := fun t ht hd => by
    rw [hN]; rw [← hSl] at ht hd ⊢; exact Sha.dnum_digit S t ht hd
  have HNl : Hid (N < 2 ^ (5 * L)) := by rw [hN, ← hSl]; exact Sha.dnum_lt S
  have HO : Hid (∀ e, Sha.bytesL (e + 1) N = Sha.bytesL e N ++ [Sha.W N (8 * e) 8]) := fun e => Sha.bytesL_succ e N
  have HOl : Hid (∀ e, (Sha.bytesL e N).length = e) := fun e => Sha.bytesL_length e N
  have HG : Hid (Sha.good S n ↔ Sha.allD S ∧ N < 2 ^ (8 * n)) := by rw [hN]; exact Iff.rfl
  have HO0 : Hid (Sha.bytesL 0 N = []) := rfl
  rw [← hS, ← hN]
  have hL1 : 8 * n ≤ 5 * L := by rw [hL, hl]; exact Sha.lenOf_le n
  have hL2 : 5 * L ≤ 8 * n + 4 := by rw [hL, hl]; unfold Sha.lenOf; omega
  have hll : L = Sha.lenOf n := by rw [hL, hl]
  have hsz : s.size = L := hL.symm
  obtain ⟨O, hOd⟩ : ∃ O : Nat → List Nat, O = fun e => Sha.bytesL e N := ⟨_, rfl⟩
  have HO' : Hid (∀ e, O (e + 1) = O e ++ [Sha.W N (8 * e) 8]) := fun e => by rw [hOd]; exact unhide HO e
  have HOl' : Hid (∀ e, (O e).length = e) := fun e => by rw [hOd]; exact unhide HOl e
  have HO0' : Hid (O 0 = []) := by rw [hOd]; exact rfl
  rw [show Sha.bytesL n N = O n by rw [hOd]]
  have HLe := hide hll
  have HSl := hide hSl
  clear hN hS hL hl hOd HO HOl HO0 hll hSl
  have hd1 : decide ((n : Int) < 0) = false := by simp
  have hd2 : decide ((16777216 : Int) < (n : Int)) = false := by simp; omega
  have hne : ((L : Int) != (L : Int)) = false := by simp
  have hnm : (n : Int) ≤ 65536 := by omega
  go_enter Try.func70, Try.ntmps70
  go_wp2_with (go_at_call 99; refine (len_n n (by omega) _).mono ?_; rintro e w' ⟨rfl, hw'⟩; rw [hw', ← unhide HLe]; clear hw' w')
  go_loopw [6, 7, 8, 9] (fun vo vb vh vi wr => ∃ I t e h : Nat, I + t = L ∧ h < 8 ∧ 8 * e + h = 5 * t ∧ vi = .int .i64 ((I : Int) - 1) ∧ vh = .int .i64 (h : Int) ∧ vb = .int .u32 ((Sha.W N (8 * e) h : Nat) : Int) ∧ OwnB wr w.heap.size vo (O e) ∧ Below w.heap.size w wr ∧ Hid (∀ i, I ≤ i → i < L → Sha.isD (Sha.nth S i) = true)) (fun _ _ _ vi _ => (intOf vi + 1).toNat)
  case atStart => exact ⟨L, 0, 0, 0, by omega, by omega, by omega, rfl, rfl, by rw [Sha.W_zero]; rfl, ⟨w.heap.size, zs n, by rw [unhide HO0']; simp, Nat.le_refl _, by rw [unhide HO0']; exact heap_alloc_last w _⟩, (Below.refl _ _).alloc (Nat.le_refl _) _, fun i h1 h2 => by omega⟩
  case round =>
    obtain ⟨I, t, e, h, hI, hh, heh, rfl, rfl, rfl, ho, hbl, hall⟩ := hrel
    by_cases hlt : 0 < I
    · obtain ⟨I, rfl⟩ : ∃ q, I = q + 1 := ⟨I - 1, by omega⟩
      rw [show (((I + 1 : Nat) : Int) - 1) = (I : Int) by omega]
      have hix := unhide HIx I (by omega)
      have hx := unhide HX I
      have HDt := hide (unhide HD t (by omega))
      rw [show L - 1 - t = I by omega] at HDt
      generalize hX : Sha.nth S I = x at *
      have HXI := hide hX
      clear hX
      cases hD : Sha.isD x with
      | false =>
        go_wp2_with (go_at_call 100; refine (digitValue_any x _ hx).mono ?_; rintro e w' ⟨⟨v, rfl, hv⟩, hw'⟩; rw [hw', hD]; clear hw' hv w')
        go_ret2
        refine ⟨hbl, .inr ⟨fun hg => ?_, rfl⟩⟩
        have := ((unhide HG).1 hg).1 I (by rw [unhide HSl]; omega)
        rw [unhide HXI, hD] at this; cases this
      | true =>
        have hor := or_step5 N e h t (Sha.vd x) hh heh (unhide HDt hD)
        by_cases h8 : 8 ≤ h + 5
        · have hb1 := byte_step N e (h + 5) h8
          have hb2 := shr_step8 N e (h + 5) h8
          have hOs := hide (unhide HO' e)
          have hy : Sha.W N (8 * e) 8 < 256 := Sha.W_lt N (8 * e) 8
          generalize Sha.W N (8 * e) (h + 5) = B at *
          generalize Sha.W N (8 * e) 8 = y at *
          generalize hVD : Sha.vd x = vx at *
          go_wp2_with (go_at_call 100; refine (digitValue_any x _ hx).mono ?_; rintro e w' ⟨⟨v, rfl, hv⟩, hw'⟩; rw [hw', hv hD, hD, hVD]; clear hw' hv w')
          have hbs := hbl.size
          obtain ⟨v', w', hr, ho', hbl', hsz'⟩ := app_own (wr.alloc (.cells #[.int .u8 (y : Int)] 5)) w.heap.size _ (O e) (some ⟨wr.heap.size, 0, none⟩) [y] 1 (ho.alloc _) (one_at wr y) (by simp) (by have := unhide HOl' e; simp; omega)
          simp only [List.length_singleton] at hr
          rw [hr]
          clear hr
          have hbl2 : Below w.heap.size w w' := (hbl.alloc hbs _).trans hbl'
          rw [← unhide hOs] at ho'
          go_wp2
          go_roundw
          case rel => exact ⟨I, t + 1, e + 1, h + 5 - 8, by omega, by omega, by omega, by first | rfl | go_num, by go_num, by first | rfl | (rw [hb2]), ho', hbl2, fun i h1 h2 => by
            by_cases hi : i = I
            · rw [hi, unhide HXI]; exact hD
            · exact unhide hall i (by omega) h2⟩
          case measure => simp [intOf]; try omega
        · generalize hVD : Sha.vd x = vx at *
          generalize hB : Sha.W N (8 * e) (h + 5) = B at *
          have HB := hide hB
          clear hB
          go_wp2_with (go_at_call 100; refine (digitValue_any x _ hx).mono ?_; rintro e w' ⟨⟨v, rfl, hv⟩, hw'⟩; rw [hw', hv hD, hD, hVD]; clear hw' hv w')
          go_roundw
          case rel => exact ⟨I, t + 1, e, h + 5, by omega, by omega, by omega, by first | rfl | go_num, by go_num, by rw [unhide HB], ho, hbl, fun i h1 h2 => by
            by_cases hi : i = I
            · rw [hi, unhide HXI]; exact hD
            · exact unhide hall i (by omega) h2⟩
          case measure => simp [intOf]; try omega
    · obtain rfl : I = 0 := by omega
      obtain rfl : e = n := by omega
      have htop := Sha.W_top_zero (N := N) (p := 8 * e) (q := h) (by rw [heh, show t = L by omega]; exact unhide HNl)
      have HAll : Hid (Sha.allD S) := fun i hi => unhide hall i (by omega) (by rw [← unhide HSl]; exact hi)
      by_cases hz : Sha.W N (8 * e) h = 0
      · have HZ := hide (htop.1 hz)
        rw [hz]
        clear htop hz
        go_wp2
        go_ret2
        exact ⟨hbl, .inl ⟨(unhide HG).2 ⟨unhide HAll, unhide HZ⟩, _, rfl, ho⟩⟩
      · have HZ : Hid (¬ N < 2 ^ (8 * e)) := fun hc => hz (htop.2 hc)
        have hne2 : (((Sha.W N (8 * e) h : Nat) : Int) != 0) = true := by rw [bne_iff_ne]; omega
        clear htop
        go_wp2
        go_ret2
        exact ⟨hbl, .inr ⟨fun hg => unhide HZ ((unhide HG).1 hg).2, rfl⟩⟩
end Go.Proofs.Ytlbfcneboaihnaa
