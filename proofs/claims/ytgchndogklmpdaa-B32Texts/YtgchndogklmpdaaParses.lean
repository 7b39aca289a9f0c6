/- The walk of the law B32Parses. -/
import Derived.Test.YtgchndogklmpdaaRefp
namespace Go.Proofs.Ytgchndogklmpdaa
open Go.RowKit Go.Great
theorem same_at (v1 v2 : Value) (m : List Nat) (w : World) (h1 : BytesAt w v1 m) (h2 : BytesAt w v2 m) (hm : m.length ≤ 1000000) :
    Calls Try.prog 12 #[v1, v2] w fun e w' => e = .returned (.bool true) ∧ ∃ n, w' = w.drewN n := by
  obtain ⟨a1, c1, rfl, -, hx1⟩ := h1
  obtain ⟨a2, c2, rfl, -, hx2⟩ := h2
  by_cases h0 : 0 < m.length
  · obtain ⟨g1, o1, rfl, -, hc1⟩ := hx1 h0
    obtain ⟨g2, o2, rfl, -, hc2⟩ := hx2 h0
    exact same_some g1 o1 g2 o2 m.length c1 c2 m w hm hc1 hc2
  · obtain rfl : m = [] := List.eq_nil_of_length_eq_zero (by omega)
    exact same_none a1 a2 c1 c2 w
theorem strOf_bytesOf (s : ByteArray) : strOf (bytesOf s) = s := by
  apply ByteArray.ext
  unfold strOf bytesOf
  simp
  apply Array.ext (by simp)
  intro i h1 h2
  simp
set_option maxRecDepth 20000 in
set_option maxHeartbeats 400000 in
theorem parse_arg (s : ByteArray) (n : Int) (w : World) (h : n < 0 ∨ 16777216 < n) :
    Calls Try.prog 9 #[.string s, .int .i64 n] w fun e w' => e = .returned (.tuple #[.slice none 0 0, .int .i64 1]) ∧ w' = w := by
  rcases h with h | h
  · go_enter Try.func9, Try.ntmps9
    go_wp2
    go_ret2
    exact ⟨rfl, rfl⟩
  · have h2 : decide (n < 0) = false := by simp; omega
    go_enter Try.func9, Try.ntmps9
    go_wp2
    go_ret2
    exact ⟨rfl, rfl⟩
set_option maxRecDepth 20000 in
set_option maxHeartbeats 400000 in
theorem parseRef_arg (s : ByteArray) (n : Int) (w : World) (h : n < 0 ∨ 16777216 < n) :
    Calls Try.prog 15 #[.string s, .int .i64 n] w fun e w' => e = .returned (.tuple #[.slice none 0 0, .int .i64 1]) ∧ w' = w := by
  rcases h with h | h
  · go_enter Try.func15, Try.ntmps15
    go_wp2
    go_ret2
    exact ⟨rfl, rfl⟩
  · have h2 : decide (n < 0) = false := by simp; omega
    go_enter Try.func15, Try.ntmps15
    go_wp2
    go_ret2
    exact ⟨rfl, rfl⟩
set_option maxRecDepth 20000 in
set_option maxHeartbeats 400000 in
theorem parse_len (s : ByteArray) (n : Int) (w : World) (h1 : 0 ≤ n) (h2 : n ≤ 16777216) (_ : s.size ≤ 600) (h : (s.size : Int) ≠ lenI n) :
    Calls Try.prog 9 #[.string s, .int .i64 n] w fun e w' => e = .returned (.tuple #[.slice none 0 0, .int .i64 3]) ∧ w' = w := by
  have hd1 : decide (n < 0) = false := by simp; omega
  have hd2 : decide (16777216 < n) = false := by simp; omega
  have hne : ((s.size : Int) != lenI n) = true := by rw [bne_iff_ne]; exact h
  have HL := hide (len_any n w)
  generalize lenI n = l at *
  clear h
  go_enter Try.func9, Try.ntmps9
  go_wp2_with (go_at_call 11; refine (unhide HL).mono ?_; rintro e w' ⟨rfl, hw'⟩; rw [hw']; clear hw' w')
  go_ret2
  exact ⟨rfl, rfl⟩
set_option maxRecDepth 20000 in
set_option maxHeartbeats 400000 in
theorem parseRef_len (s : ByteArray) (n : Int) (w : World) (h1 : 0 ≤ n) (h2 : n ≤ 16777216) (_ : s.size ≤ 600) (h : (s.size : Int) ≠ lenI n) :
    Calls Try.prog 15 #[.string s, .int .i64 n] w fun e w' => e = .returned (.tuple #[.slice none 0 0, .int .i64 3]) ∧ w' = w := by
  have hd1 : decide (n < 0) = false := by simp; omega
  have hd2 : decide (16777216 < n) = false := by simp; omega
  have hne : ((s.size : Int) != lenI n) = true := by rw [bne_iff_ne]; exact h
  have HL := hide (lenRef_any n w)
  generalize lenI n = l at *
  clear h
  go_enter Try.func15, Try.ntmps15
  go_wp2_with (go_at_call 16; refine (unhide HL).mono ?_; rintro e w' ⟨rfl, hw'⟩; rw [hw']; clear hw' w')
  go_ret2
  exact ⟨rfl, rfl⟩
set_option maxRecDepth 20000 in
set_option maxHeartbeats 1000000 in
theorem parses_err (s : ByteArray) (n : Int) (c : Int) (w : World) (hs : s.size ≤ 600) (hc : c = 1 ∨ c = 3)
    (H1 : Hid (∀ w : World, Calls Try.prog 9 #[.string s, .int .i64 n] w fun e w' => e = .returned (.tuple #[.slice none 0 0, .int .i64 c]) ∧ w' = w))
    (H2 : Hid (∀ w : World, Calls Try.prog 15 #[.string s, .int .i64 n] w fun e w' => e = .returned (.tuple #[.slice none 0 0, .int .i64 c]) ∧ w' = w)) :
    Calls Try.prog 4 #[.string s, .int .i64 n] w fun e w' => e = .returned (.bool true) ∧ Below w.heap.size w w' := by
  have hd : decide ((600 : Int) < (s.size : Int)) = false := by simp; omega
  rcases hc with rfl | rfl
  all_goals
    go_enter Try.func4, Try.ntmps4
    go_wp2_with (first
      | (go_at_call 9; refine (unhide H1 _).mono ?_; rintro e w' ⟨rfl, hw'⟩; rw [hw']; clear hw' w')
      | (go_at_call 15; refine (unhide H2 _).mono ?_; rintro e w' ⟨rfl, hw'⟩; rw [hw']; clear hw' w')
      | (go_at_call 12; refine (same_none none none 0 0 _).mono ?_; rintro e w' ⟨rfl, k, hw'⟩; rw [hw']; clear hw' w')
      | (go_at_call 14; refine (known_any _).mono ?_; rintro e w' ⟨rfl, hb⟩))
    go_ret
    exact ⟨rfl, (below_drews (Below.refl _ _) k).trans hb⟩
set_option maxRecDepth 20000 in
set_option maxHeartbeats 1000000 in
theorem parses_ok (s : ByteArray) (n : Nat) (w : World) (hs : s.size ≤ 600) (hl : s.size = Sha.lenOf n) :
    Calls Try.prog 4 #[.string s, .int .i64 (n : Int)] w fun e w' => e = .returned (.bool true) ∧ Below w.heap.size w w' := by
  have hd : decide ((600 : Int) < (s.size : Int)) = false := by simp; omega
  have hn : n ≤ 600 := by unfold Sha.lenOf at hl; omega
  have hSl : (bytesOf s).length = Sha.lenOf n := by rw [bytesOf_length, hl]
  have hbeq : (s.toList == s.toList) = true := by simp
  have HP := hide (parse_main s n w hl hn)
  go_enter Try.func4, Try.ntmps4
  go_wp2_with fail
  refine (unhide HP).mono ?_
  clear HP
  rintro e w1 ⟨hb1, ⟨hg, v, rfl, ho⟩ | ⟨hg, rfl⟩⟩
  · have HQ := hide (parseRef_main s n w1 hl hn)
    have HG := hide hg
    have hv := hide ho.bytesAt
    have HT := hide (Sha.text_back hSl hg)
    have HO := hide ho
    clear hg ho
    go_wp2_with fail
    refine (unhide HQ).mono ?_
    clear HQ
    rintro e w2 ⟨hb2, ⟨hg, v2, rfl, ho2⟩ | ⟨hg, rfl⟩⟩
    · have hbl2 : Below w.heap.size w w2 := hb1.trans (hb2.mono hb1.size)
      have HS := hide (same_at v v2 _ w2 ((unhide hv).below hb2) ho2.bytesAt (by rw [Sha.bytesL_length]; omega))
      have hv2 := (unhide hv).below hb2
      clear ho2 hg
      go_wp2_with fail
      refine (unhide HS).mono ?_
      rintro e w3 ⟨rfl, k, rfl⟩
      have hbl3 := below_drews hbl2 k
      have hv3 := hide (hv2.below (below_drews (Below.refl _ _) k))
      obtain ⟨a, cap, rfl, -⟩ := unhide hv3
      have HT2 := hide (text_any a _ cap _ (w2.drewN k) rfl (unhide hv3) (Sha.bytesL_bytes _ _) (by rw [Sha.bytesL_length]; omega))
      rw [unhide HT, strOf_bytesOf] at HT2
      clear hv2 hv3 HS hbl2 hb2 HT
      generalize (Sha.bytesL n (Sha.dnum (bytesOf s))).length = l at *
      go_wp2_with (first
        | (go_at_call 8; refine (unhide HT2).mono ?_; rintro e w4 ⟨rfl, hb4⟩; have hbl4 : Below w.heap.size w w4 := hbl3.trans (hb4.mono hbl3.size); clear hb4 HT2)
        | (go_at_call 14; refine (known_any _).mono ?_; rintro e w5 ⟨rfl, hb5⟩; have hbl5 : Below w.heap.size w w5 := hbl4.trans (hb5.mono hbl4.size)))
      go_ret
      exact ⟨rfl, hbl5⟩
    · exact absurd (unhide HG) hg
  · have HQ := hide (parseRef_main s n w1 hl hn)
    have HG := hide hg
    clear hg
    go_wp2_with fail
    refine (unhide HQ).mono ?_
    clear HQ
    rintro e w2 ⟨hb2, ⟨hg, v2, rfl, ho2⟩ | ⟨hg, rfl⟩⟩
    · exact absurd hg (unhide HG)
    · have hbl2 : Below w.heap.size w w2 := hb1.trans (hb2.mono hb1.size)
      go_wp2_with (first
        | (go_at_call 12; refine (same_none none none 0 0 _).mono ?_; rintro e w' ⟨rfl, k, hw'⟩; rw [hw']; clear hw' w')
        | (go_at_call 14; refine (known_any _).mono ?_; rintro e w' ⟨rfl, hb⟩))
      go_ret
      exact ⟨rfl, (below_drews hbl2 k).trans (hb.mono (below_drews hbl2 k).size)⟩
set_option maxRecDepth 20000 in
set_option maxHeartbeats 400000 in
theorem parses_walk (w : World) (s : ByteArray) (hm : s.size ≤ 9223372036854775807) (n : Int) (_ : (Lit.int .i64 n).wf = true) :
    Calls Try.prog 4 #[.string s, .int .i64 n] w fun e w' => e = .returned (.bool true) ∧ Below w.heap.size w w' := by
  by_cases hs : 600 < s.size
  · have hd : decide ((600 : Int) < (s.size : Int)) = true := by simp; omega
    go_enter Try.func4, Try.ntmps4
    go_wp2
    go_ret
    exact ⟨rfl, Below.refl _ _⟩
  by_cases ha : n < 0 ∨ 16777216 < n
  · exact parses_err s n 1 w (by omega) (.inl rfl) (fun w => parse_arg s n w ha) (fun w => parseRef_arg s n w ha)
  by_cases hl : (s.size : Int) = lenI n
  · obtain ⟨m, rfl⟩ := Int.eq_ofNat_of_zero_le (show 0 ≤ n by omega)
    rw [lenI_nat m (by omega)] at hl
    exact parses_ok s m w (by omega) (by omega)
  · exact parses_err s n 3 w (by omega) (.inr rfl) (fun w => parse_len s n w (by omega) (by omega) (by omega) hl) (fun w => parseRef_len s n w (by omega) (by omega) (by omega) hl)
end Go.Proofs.Ytgchndogklmpdaa
