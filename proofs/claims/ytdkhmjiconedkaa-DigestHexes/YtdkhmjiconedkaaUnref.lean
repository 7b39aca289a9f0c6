/- The document's own FromHex. -/
import Derived.Test.YtdkhmjiconedkaaUnhex
namespace Go.Proofs.Ytdkhmjiconedkaa
open Go.RowKit Go.Great
attribute [local go_sem] index_strIx

theorem set_val (l : List Nat) (k n : Nat) (v : Int) (h : v = (n : Int)) : (E8 l).setIfInBounds k (.int .u8 v) = E8 (l.set k n) := by subst h; exact E8_set l k n
theorem isDig_cases (c : Nat) (h : isDig c = true) : (48 ≤ c ∧ c ≤ 57 ∧ digOf c = c - 48) ∨ (97 ≤ c ∧ c ≤ 102 ∧ digOf c = c - 87) := by
  unfold isDig at h; simp at h
  rcases h with ⟨h1, h2⟩ | ⟨h1, h2⟩
  · exact Or.inl ⟨h1, h2, by unfold digOf; rw [if_pos ⟨h1, h2⟩]⟩
  · exact Or.inr ⟨h1, h2, by unfold digOf; rw [if_neg (by omega), if_pos ⟨h1, h2⟩]⟩
theorem notDig_cases (c : Nat) (h : isDig c = false) : c < 48 ∨ (57 < c ∧ c < 97) ∨ 102 < c := by
  unfold isDig at h; simp at h; omega

set_option maxRecDepth 20000 in
set_option maxHeartbeats 2000000 in
theorem fromHexRef_yes (s : ByteArray) (w : World) (h : Digits (bytesOf s)) :
    Calls Try.prog 20 #[.string s] w fun e w' => e = .returned (.tuple #[.agg (E8 (unhexTo (bytesOf s) 32)), .int .i64 0]) ∧ Below w.heap.size w w' := by
  have hsz : s.size = 64 := by rw [← bytesOf_length]; exact h.1
  have hby := bytesOf_bytes s
  obtain ⟨F, hF⟩ : ∃ F : Nat → List Nat, F = fun k => padTo 32 (unhexTo (bytesOf s) k) := ⟨_, rfl⟩
  have h0 : Z25 = E8 (F 0) := by rw [hF]; rfl
  have hlen : ∀ k, k ≤ 32 → (F k).length = 32 := fun k hk => by rw [hF]; exact padTo_length _ _ (by rw [unhexTo_length]; omega)
  have hzero : ∀ k, k < 32 → Sha.nth (F k) k = 0 := fun k hk => by
    rw [hF]; simp only [padTo]
    rw [Sha.nth_append_right (by rw [unhexTo_length]; omega), Sha.nth_replicate]
  have HS : Hid (∀ k, k < 32 → (F k).set k (16 * digOf (Sha.nth (bytesOf s) (2 * k)) + digOf (Sha.nth (bytesOf s) (2 * k + 1))) = F (k + 1)) := fun k hk => by
    rw [hF]; exact padTo_set 32 _ _ _ (unhexTo_length _ _) hk
  have HE : Hid (unhexTo (bytesOf s) 32 = F 32) := by rw [hF]; exact (padTo_full _ _ (unhexTo_length _ _)).symm
  generalize unhexTo (bytesOf s) 32 = R at *
  have HL := hide hlen
  have HZ := hide hzero
  have H0 := hide h0
  have HD := hide h.2
  have hne : ((64 : Int) != 64) = false := by decide
  clear hF h0 hlen hzero h
  go_enter Try.func20, Try.ntmps20
  go_wp2
  go_loopw [5] (fun c wr => (∃ k n : Nat, k ≤ 32 ∧ c = .int .i64 ((2 * k : Nat) : Int) ∧ wr = ((w.alloc (.cells Z25 25)).alloc (.cells (E8 (F k)) 25)).drewN n) ∨ (∃ k n : Nat, k < 32 ∧ c = .int .i64 ((2 * k + 1 : Nat) : Int) ∧ wr = ((w.alloc (.cells Z25 25)).alloc (.cells (E8 ((F k).set k (digOf (Sha.nth (bytesOf s) (2 * k))))) 25)).drewN n)) (fun c _ => 64 - (intOf c).toNat)
  case atStart => exact Or.inl ⟨0, 0, by omega, rfl, by rw [← unhide H0]; rfl⟩
  case round =>
    rcases hrel with ⟨k, n, hk, rfl, rfl⟩ | ⟨k, n, hk, rfl, rfl⟩
    · have hpl := unhide HL k hk
      by_cases hlt : k < 32
      · have hz := unhide HZ k hlt
        have hd := unhide HD (2 * k) (by omega)
        have hi := run_strIx_i s (2 * (k : Int)) (2 * k) (by omega) (by omega)
        have hb := hby.at (2 * k)
        have hcc := isDig_cases _ hd
        generalize hC : Sha.nth (bytesOf s) (2 * k) = c at *
        have HC := hide hC
        clear hC hd
        rcases hcc with ⟨h1, h2, h3⟩ | ⟨h1, h2, h3⟩
        all_goals
          have H3 := hide h3
          clear h3
          go_wp2
          refine ⟨Or.inr ⟨k, n, hlt, congrArg (Value.int .i64) (by omega), ?_⟩, by simp [intOf]; omega⟩
          rw [set_val _ _ (digOf c) _ (by have := unhide H3; omega), unhide HC]
      · have hk' : k = 32 := by omega
        subst hk'
        go_wp2
        exact bodyPost_ret (res25_pair Try.results20 rfl (by rw [unhide HE]) (by simp [go_sem]) (by simp [hpl]) rfl) rfl ⟨rfl, below_drews (((Below.refl _ _).alloc (Nat.le_refl _) _).alloc (by simp) _) _⟩
    · have hpl := unhide HL k (by omega)
      have hpl2 : ((F k).set k (digOf (Sha.nth (bytesOf s) (2 * k)))).length = 32 := by rw [List.length_set]; exact hpl
      have hz : Sha.nth ((F k).set k (digOf (Sha.nth (bytesOf s) (2 * k)))) k = digOf (Sha.nth (bytesOf s) (2 * k)) := Sha.nth_set_same (by omega)
      have hss : ∀ x, ((F k).set k (digOf (Sha.nth (bytesOf s) (2 * k)))).set k x = (F k).set k x := fun x => List.set_set _
      have hp15 := digOf_lt (Sha.nth (bytesOf s) (2 * k))
      have hHS := unhide HS k hk
      generalize hL : (F k).set k (digOf (Sha.nth (bytesOf s) (2 * k))) = L at *
      generalize hP : digOf (Sha.nth (bytesOf s) (2 * k)) = pv at *
      have HSS := hide hss
      have HHS := hide hHS
      have hd := unhide HD (2 * k + 1) (by omega)
      have hi := run_strIx_i s (2 * (k : Int) + 1) (2 * k + 1) (by omega) (by omega)
      have hb := hby.at (2 * k + 1)
      have hcc := isDig_cases _ hd
      generalize hC : Sha.nth (bytesOf s) (2 * k + 1) = c at *
      clear hC hd hL hP hss hHS
      have hdN : (2 * k + 1) / 2 = k := by omega
      have hdI : (2 * (k : Int) + 1) / 2 = (k : Int) := by omega
      rcases hcc with ⟨h1, h2, h3⟩ | ⟨h1, h2, h3⟩
      all_goals
        have H3 := hide h3
        clear h3
        go_wp2
        refine ⟨Or.inl ⟨k + 1, n, by omega, congrArg (Value.int .i64) (by omega), ?_⟩, by simp [intOf]; omega⟩
        rw [set_val _ _ (16 * pv + digOf c) _ (by have := unhide H3; omega), unhide HSS, unhide HHS]

set_option maxRecDepth 20000 in
set_option maxHeartbeats 1000000 in
theorem fromHexRef_len (s : ByteArray) (w : World) (h : s.size ≠ 64) :
    Calls Try.prog 20 #[.string s] w fun e w' => e = .returned (.tuple #[.agg Z25, .int .i64 3]) ∧ Below w.heap.size w w' := by
  have hne : ((s.size : Int) != 64) = true := by simp; omega
  go_enter Try.func20, Try.ntmps20
  go_wp2
  exact bodyPost_ret (res25_pair Try.results20 rfl rfl (by simp [go_sem]) (by simp) rfl) rfl ⟨rfl, ((Below.refl _ _).alloc (Nat.le_refl _) _).alloc (by simp) _⟩

set_option maxRecDepth 20000 in
set_option maxHeartbeats 2000000 in
theorem fromHexRef_no (s : ByteArray) (w : World) (hsz : s.size = 64) (j : Nat) (hj : j < 64) (hbad : isDig (Sha.nth (bytesOf s) j) = false) (hgood : ∀ i, i < j → isDig (Sha.nth (bytesOf s) i) = true) :
    Calls Try.prog 20 #[.string s] w fun e w' => e = .returned (.tuple #[.agg Z25, .int .i64 3]) ∧ Below w.heap.size w w' := by
  have hby := bytesOf_bytes s
  obtain ⟨F, hF⟩ : ∃ F : Nat → List Nat, F = fun k => padTo 32 (unhexTo (bytesOf s) k) := ⟨_, rfl⟩
  have h0 : Z25 = E8 (F 0) := by rw [hF]; rfl
  have hlen : ∀ k, k ≤ 32 → (F k).length = 32 := fun k hk => by rw [hF]; exact padTo_length _ _ (by rw [unhexTo_length]; omega)
  have hzero : ∀ k, k < 32 → Sha.nth (F k) k = 0 := fun k hk => by
    rw [hF]; simp only [padTo]
    rw [Sha.nth_append_right (by rw [unhexTo_length]; omega), Sha.nth_replicate]
  have HS : Hid (∀ k, k < 32 → (F k).set k (16 * digOf (Sha.nth (bytesOf s) (2 * k)) + digOf (Sha.nth (bytesOf s) (2 * k + 1))) = F (k + 1)) := fun k hk => by
    rw [hF]; exact padTo_set 32 _ _ _ (unhexTo_length _ _) hk
  have HL := hide hlen
  have HZ := hide hzero
  have H0 := hide h0
  have HD := hide hgood
  have HB := hide hbad
  have hne : ((64 : Int) != 64) = false := by decide
  clear hF h0 hlen hzero hgood hbad
  go_enter Try.func20, Try.ntmps20
  go_wp2
  go_loopw [5] (fun c wr => (∃ k n : Nat, 2 * k ≤ j ∧ c = .int .i64 ((2 * k : Nat) : Int) ∧ wr = ((w.alloc (.cells Z25 25)).alloc (.cells (E8 (F k)) 25)).drewN n) ∨ (∃ k n : Nat, 2 * k + 1 ≤ j ∧ c = .int .i64 ((2 * k + 1 : Nat) : Int) ∧ wr = ((w.alloc (.cells Z25 25)).alloc (.cells (E8 ((F k).set k (digOf (Sha.nth (bytesOf s) (2 * k))))) 25)).drewN n)) (fun c _ => 64 - (intOf c).toNat)
  case atStart => exact Or.inl ⟨0, 0, by omega, rfl, by rw [← unhide H0]; rfl⟩
  case round =>
    rcases hrel with ⟨k, n, hk, rfl, rfl⟩ | ⟨k, n, hk, rfl, rfl⟩
    · have hlt : k < 32 := by omega
      have hpl := unhide HL k (by omega)
      by_cases hne2 : 2 * k < j
      · have hz := unhide HZ k hlt
        have hd := unhide HD (2 * k) (by omega)
        have hi := run_strIx_i s (2 * (k : Int)) (2 * k) (by omega) (by omega)
        have hb := hby.at (2 * k)
        have hcc := isDig_cases _ hd
        generalize hC : Sha.nth (bytesOf s) (2 * k) = c at *
        have HC := hide hC
        clear hC hd
        rcases hcc with ⟨h1, h2, h3⟩ | ⟨h1, h2, h3⟩
        all_goals
          have H3 := hide h3
          clear h3
          go_wp2
          refine ⟨Or.inr ⟨k, n, by omega, congrArg (Value.int .i64) (by omega), ?_⟩, by simp [intOf]; omega⟩
          rw [set_val _ _ (digOf c) _ (by have := unhide H3; omega), unhide HC]
      · have hjk : j = 2 * k := by omega
        have hd := unhide HB
        rw [hjk] at hd
        have hi := run_strIx_i s (2 * (k : Int)) (2 * k) (by omega) (by omega)
        have hb := hby.at (2 * k)
        have hcc := notDig_cases _ hd
        generalize Sha.nth (bytesOf s) (2 * k) = c at *
        clear hd
        rcases hcc with h1 | ⟨h1, h2⟩ | h1
        all_goals
          go_wp2
          exact bodyPost_ret (res25_pair Try.results20 rfl rfl (by simp [go_sem]) (by simp) rfl) rfl ⟨rfl, below_drews (((Below.refl _ _).alloc (Nat.le_refl _) _).alloc (by simp) _) _⟩
    · have hpl := unhide HL k (by omega)
      have hk32 : k < 32 := by omega
      have hdN : (2 * k + 1) / 2 = k := by omega
      have hdI : (2 * (k : Int) + 1) / 2 = (k : Int) := by omega
      have hpl2 : ((F k).set k (digOf (Sha.nth (bytesOf s) (2 * k)))).length = 32 := by rw [List.length_set]; exact hpl
      have hz : Sha.nth ((F k).set k (digOf (Sha.nth (bytesOf s) (2 * k)))) k = digOf (Sha.nth (bytesOf s) (2 * k)) := Sha.nth_set_same (by omega)
      have hss : ∀ x, ((F k).set k (digOf (Sha.nth (bytesOf s) (2 * k)))).set k x = (F k).set k x := fun x => List.set_set _
      have hp15 := digOf_lt (Sha.nth (bytesOf s) (2 * k))
      have hHS := unhide HS k hk32
      generalize hL : (F k).set k (digOf (Sha.nth (bytesOf s) (2 * k))) = L at *
      generalize hP : digOf (Sha.nth (bytesOf s) (2 * k)) = pv at *
      have HSS := hide hss
      have HHS := hide hHS
      by_cases hne2 : 2 * k + 1 < j
      · have hd := unhide HD (2 * k + 1) (by omega)
        have hi := run_strIx_i s (2 * (k : Int) + 1) (2 * k + 1) (by omega) (by omega)
        have hb := hby.at (2 * k + 1)
        have hcc := isDig_cases _ hd
        generalize hC : Sha.nth (bytesOf s) (2 * k + 1) = c at *
        clear hC hd hL hP hss hHS
        rcases hcc with ⟨h1, h2, h3⟩ | ⟨h1, h2, h3⟩
        all_goals
          have H3 := hide h3
          clear h3
          go_wp2
          refine ⟨Or.inl ⟨k + 1, n, by omega, congrArg (Value.int .i64) (by omega), ?_⟩, by simp [intOf]; omega⟩
          rw [set_val _ _ (16 * pv + digOf c) _ (by have := unhide H3; omega), unhide HSS, unhide HHS]
      · have hjk : j = 2 * k + 1 := by omega
        have hd := unhide HB
        rw [hjk] at hd
        clear hL hP hss hHS
        have hi := run_strIx_i s (2 * (k : Int) + 1) (2 * k + 1) (by omega) (by omega)
        have hb := hby.at (2 * k + 1)
        have hcc := notDig_cases _ hd
        generalize Sha.nth (bytesOf s) (2 * k + 1) = c at *
        clear hd
        rcases hcc with h1 | ⟨h1, h2⟩ | h1
        all_goals
          go_wp2
          exact bodyPost_ret (res25_pair Try.results20 rfl rfl (by simp [go_sem]) (by simp) rfl) rfl ⟨rfl, below_drews (((Below.refl _ _).alloc (Nat.le_refl _) _).alloc (by simp) _) _⟩
end Go.Proofs.Ytdkhmjiconedkaa
