/- Check, in the document's own answer. -/
import Derived.Test.YthfjofmfiklegaaDoorCheck
namespace Go.Proofs.YthfjofmfiklegaaDoor
open Go.RowKit
theorem loc_one {x : Bool} {d nk : Nat} {ns : List ByteArray} : locErr 1 x d ns nk = if 0 < ns.length ∨ 0 < nk then 3 else if 1048576 < d then 5 else 0 := by unfold locErr; rw [if_pos rfl]
theorem loc_three {x : Bool} {d nk : Nat} {ns : List ByteArray} : locErr 3 x d ns nk = if 0 < ns.length ∨ 0 < nk ∨ x = true then 3 else if 1000 < d then 5 else if d = 0 then 3 else 0 := by unfold locErr; rw [if_neg (by omega), if_pos rfl]
theorem loc_two_no {x : Bool} {d nk : Nat} {ns : List ByteArray} (h : x = true ∨ 0 < d ∨ ns.length ≠ nk) : locErr 2 x d ns nk = 3 := by unfold locErr; rw [if_neg (by omega), if_neg (by omega), if_pos rfl, if_pos h]
theorem loc_else {k : Int} {x : Bool} {d nk : Nat} {ns : List ByteArray} (h1 : k ≠ 1) (h2 : k ≠ 2) (h3 : k ≠ 3) : locErr k x d ns nk = 3 := by unfold locErr; rw [if_neg h1, if_neg h3, if_neg h2]
/-- What is no directory has no kids that are asked. -/
theorem chk_flat {k : Int} {x : Bool} {d : ByteArray} {ns : List ByteArray} {ks : List Tr} {deep n : Nat} (hk : k ≠ 2) (hb : ¬ (65536 < n + 1 ∨ 64 < deep)) : chk (.mk k x d ns ks) deep n = (locErr k x d.size ns ks.length, n + 1) := by
  rw [chk, if_neg hb]
  split
  · rename_i h0
    have hz : ks.length = 0 := by
      unfold locErr at h0
      split at h0
      · split at h0
        · omega
        · omega
      · split at h0
        · split at h0
          · omega
          · omega
        · omega
    obtain rfl : ks = [] := List.eq_nil_of_length_eq_zero hz
    rw [chks, h0]
  · rfl
set_option maxRecDepth 20000 in
set_option maxHeartbeats 1000000 in
theorem chkR_flat (k : Int) (x : Bool) (d : ByteArray) (ns : List ByteArray) (ks : List Tr) (lo hi : Nat) (cs : List Value) (w : World) (c deep n : Nat) (hL : Lies lo hi w (.mk k x d ns ks) cs) (hW : wt (.mk k x d ns ks) ≤ 100000) (hC : Ctr w c (.int .i64 (n : Int))) (_ : hi ≤ c) (hn0 : n ≤ 65536) (hd0 : deep ≤ 65)
    (hflat : k ≠ 2 ∨ 65536 < n + 1 ∨ 64 < deep) :
    Calls Tryd.prog 30 #[.agg cs.toArray, .int .i64 (deep : Int), .pointer (some ⟨c, 0, none⟩)] w fun e w' => e = .returned (.int .i64 (((chk (.mk k x d ns ks) deep n).1 : Nat) : Int)) ∧ Sole c w w' ∧ Ctr w' c (.int .i64 (((chk (.mk k x d ns ks) deep n).2 : Nat) : Int)) := by
  have hSm := small_of hW
  cases hL with
  | mk _ _ _ _ _ vd vn vk Ks hl hd hn hk hK =>
  obtain ⟨ad, cd, rfl, hcd⟩ := hd.slice
  obtain ⟨an, cn, rfl, hcn⟩ := hn.slice
  obtain ⟨ak, ck, rfl, hck⟩ := hk.slice
  have hcl := hC.lt
  obtain ⟨z, hz⟩ : ∃ z : Int, z = (n : Int) := ⟨_, rfl⟩
  rw [← hz] at hC
  have HC := hide hC
  have hkl := hSm.k
  obtain ⟨hcc, hcf⟩ := hC
  have hS0 : Sole c w ((w.setCell ⟨c, 0, none⟩ (.int .i64 (z + 1))).alloc (.cells #[.int .i64 k, .bool x, .slice ad d.size cd, .slice an ns.length cn, .slice ak ks.length ck] 26)) := (((Sole.refl c w).setCell 0 _).alloc _)
  have hB0 : Bx ((w.setCell ⟨c, 0, none⟩ (.int .i64 (z + 1))).alloc (.cells #[.int .i64 k, .bool x, .slice ad d.size cd, .slice an ns.length cn, .slice ak ks.length ck] 26)) w.heap.size (.int .i64 k) (.bool x) (.slice ad d.size cd) (.slice an ns.length cn) (.slice ak ks.length ck) := bx_new' _ _ _ _ _ _ _ _
  have hC0 : Ctr ((w.setCell ⟨c, 0, none⟩ (.int .i64 (z + 1))).alloc (.cells #[.int .i64 k, .bool x, .slice ad d.size cd, .slice an ns.length cn, .slice ak ks.length ck] 26)) c (.int .i64 (z + 1)) :=
    ((unhide HC).set (.int .i64 (z + 1))).below ((Below.refl w.heap.size _).alloc (by simp) (.cells #[.int .i64 k, .bool x, .slice ad d.size cd, .slice an ns.length cn, .slice ak ks.length ck] 26)) hcl
  have H0 := hide (And.intro hS0 (And.intro hB0 hC0))
  clear hS0 hB0 hC0
  obtain ⟨E, M, hEM⟩ : ∃ E M, chk (.mk k x d ns ks) deep n = (E, M) := ⟨_, _, rfl⟩
  rw [hEM]
  simp only
  have HEM := hide hEM
  clear hEM
  have hn1 : z ≤ 1000000 := by omega
  have hn2 : 0 ≤ z := by omega
  have HZ : Hid (((n + 1 : Nat) : Int) = z + 1) := by show ((n + 1 : Nat) : Int) = z + 1; omega
  have hd1 : (deep : Int) ≤ 1000 := by omega
  have hkl1 : (ks.length : Int) ≤ 1000000 := by omega
  by_cases hbig : 65536 < n + 1 ∨ 64 < deep
  · have HE : (5, n + 1) = (E, M) := by rw [← unhide HEM, chk, if_pos hbig]
    obtain ⟨rfl, rfl⟩ := Prod.mk.inj HE
    clear HE HEM
    clear hd hn hk hK hl hSm hW hflat
    have hbig' : (65536 : Int) < z + 1 ∨ (64 : Int) < (deep : Int) := by omega
    clear hbig
    rw [unhide HZ]
    clear hn0 hd0 hkl hz HZ
    rcases hbig' with hbig | hbig
    all_goals
      go_enter Tryd.func30, Tryd.ntmps30
      go_wp2_with fail
      all_goals go_ret
      all_goals exact ⟨rfl, (unhide H0).1, (unhide H0).2.2⟩
  have hbig1 : ¬ (65536 : Int) < z + 1 := by omega
  have hbig2 : ¬ (64 : Int) < (deep : Int) := by omega
  have HNb : Hid (n + 1 ≤ 65536) := by show n + 1 ≤ 65536; omega
  have HD0 := hide (show deep ≤ 64 by omega)
  have hk2 : k ≠ 2 := by rcases hflat with h | h | h
                         · exact h
                         · omega
                         · omega
  · clear hflat
    have HE : (locErr k x d.size ns ks.length, n + 1) = (E, M) := by rw [← unhide HEM, chk_flat hk2 hbig]
    obtain ⟨hE, rfl⟩ := Prod.mk.inj HE
    rw [unhide HZ]
    clear HE HEM hn0 hd0 hkl hz HZ HNb HD0 hSm hW hd hn hk hK hl hbig
    by_cases hk1 : k = 1
    · subst hk1
      rw [loc_one] at hE
      by_cases hn3 : 0 < ns.length
      · rw [if_pos (.inl hn3)] at hE
        subst hE
        go_enter Tryd.func30, Tryd.ntmps30
        go_wp2_with fail
        all_goals go_ret
        all_goals exact ⟨rfl, (unhide H0).1, (unhide H0).2.2⟩
      by_cases hk3 : 0 < ks.length
      · rw [if_pos (.inr hk3)] at hE
        subst hE
        go_enter Tryd.func30, Tryd.ntmps30
        go_wp2_with fail
        all_goals go_ret
        all_goals exact ⟨rfl, (unhide H0).1, (unhide H0).2.2⟩
      rw [if_neg (by omega)] at hE
      by_cases hd5 : 1048576 < d.size
      · rw [if_pos hd5] at hE
        subst hE
        go_enter Tryd.func30, Tryd.ntmps30
        go_wp2_with fail
        all_goals go_ret
        all_goals exact ⟨rfl, (unhide H0).1, (unhide H0).2.2⟩
      · rw [if_neg hd5] at hE
        subst hE
        go_enter Tryd.func30, Tryd.ntmps30
        go_wp2_with fail
        all_goals go_ret
        all_goals exact ⟨rfl, (unhide H0).1, (unhide H0).2.2⟩
    by_cases hk3 : k = 3
    · subst hk3
      rw [loc_three] at hE
      by_cases hn3 : 0 < ns.length
      · rw [if_pos (.inl hn3)] at hE
        subst hE
        go_enter Tryd.func30, Tryd.ntmps30
        go_wp2_with fail
        all_goals go_ret
        all_goals exact ⟨rfl, (unhide H0).1, (unhide H0).2.2⟩
      by_cases hk3 : 0 < ks.length
      · rw [if_pos (.inr (.inl hk3))] at hE
        subst hE
        go_enter Tryd.func30, Tryd.ntmps30
        go_wp2_with fail
        all_goals go_ret
        all_goals exact ⟨rfl, (unhide H0).1, (unhide H0).2.2⟩
      cases hx : x
      case true =>
        rw [if_pos (.inr (.inr hx))] at hE
        subst hx
        subst hE
        go_enter Tryd.func30, Tryd.ntmps30
        go_wp2_with fail
        all_goals go_ret
        all_goals exact ⟨rfl, (unhide H0).1, (unhide H0).2.2⟩
      rw [if_neg (by rw [hx]; simp only [Bool.false_eq_true, or_false]; omega)] at hE
      subst hx
      by_cases hd5 : 1000 < d.size
      · rw [if_pos hd5] at hE
        subst hE
        go_enter Tryd.func30, Tryd.ntmps30
        go_wp2_with fail
        all_goals go_ret
        all_goals exact ⟨rfl, (unhide H0).1, (unhide H0).2.2⟩
      rw [if_neg hd5] at hE
      by_cases hd6 : d.size = 0
      · rw [if_pos hd6] at hE
        rw [hd6] at H0
        subst hE
        go_enter Tryd.func30, Tryd.ntmps30
        go_wp2_with fail
        all_goals go_ret
        all_goals exact ⟨rfl, (unhide H0).1, (unhide H0).2.2⟩
      · rw [if_neg hd6] at hE
        have hd7 : ((d.size : Int) == 0) = false := by rw [beq_eq_false_iff_ne]; omega
        subst hE
        go_enter Tryd.func30, Tryd.ntmps30
        go_wp2_with fail
        all_goals go_ret
        all_goals exact ⟨rfl, (unhide H0).1, (unhide H0).2.2⟩
    rw [loc_else hk1 hk2 hk3] at hE
    have e1 : (k == 1) = false := by simpa using hk1
    have e2 : (k == 2) = false := by simpa using hk2
    have e3 : (k == 3) = false := by simpa using hk3
    clear hk1 hk2 hk3
    by_cases hn3 : 0 < ns.length
    · subst hE
      go_enter Tryd.func30, Tryd.ntmps30
      go_wp2_with fail
      all_goals go_ret
      all_goals exact ⟨rfl, (unhide H0).1, (unhide H0).2.2⟩
    obtain rfl : ns = [] := List.eq_nil_of_length_eq_zero (by omega)
    by_cases hk3 : 0 < ks.length
    · subst hE
      go_enter Tryd.func30, Tryd.ntmps30
      go_wp2_with fail
      all_goals go_ret
      all_goals exact ⟨rfl, (unhide H0).1, (unhide H0).2.2⟩
    obtain rfl : ks = [] := List.eq_nil_of_length_eq_zero (by omega)
    subst hE
    go_enter Tryd.func30, Tryd.ntmps30
    go_wp2_with fail
    all_goals go_ret
    all_goals exact ⟨rfl, (unhide H0).1, (unhide H0).2.2⟩
end Go.Proofs.YthfjofmfiklegaaDoor
