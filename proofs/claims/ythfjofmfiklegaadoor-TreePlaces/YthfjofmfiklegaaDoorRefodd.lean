/- Check, in the document's own answer: a directory that is none, or empty. -/
import Derived.Test.YthfjofmfiklegaaDoorRefck
namespace Go.Proofs.YthfjofmfiklegaaDoor
open Go.RowKit
set_option maxRecDepth 20000 in
set_option maxHeartbeats 1000000 in
theorem chkR_odd (x : Bool) (d : ByteArray) (ns : List ByteArray) (ks : List Tr) (lo hi : Nat) (cs : List Value) (w : World) (c deep n : Nat) (hL : Lies lo hi w (.mk 2 x d ns ks) cs) (hW : wt (.mk 2 x d ns ks) ≤ 100000) (hC : Ctr w c (.int .i64 (n : Int))) (_ : hi ≤ c) (hn0 : n ≤ 65536) (hd0 : deep ≤ 65) (hbig : ¬ (65536 < n + 1 ∨ 64 < deep)) (hodd : (x = true ∨ 0 < d.size ∨ ns.length ≠ ks.length) ∨ ns.length = 0) :
    Calls Tryd.prog 30 #[.agg cs.toArray, .int .i64 (deep : Int), .pointer (some ⟨c, 0, none⟩)] w fun e w' => e = .returned (.int .i64 (((chk (.mk 2 x d ns ks) deep n).1 : Nat) : Int)) ∧ Sole c w w' ∧ Ctr w' c (.int .i64 (((chk (.mk 2 x d ns ks) deep n).2 : Nat) : Int)) := by
  have hSm := small_of hW
  cases hL with
  | mk _ _ _ _ _ vd vn vk Ks hl hd hn hk hK =>
  obtain ⟨ad, cd, rfl, hcd⟩ := hd.slice
  obtain ⟨an, cn, rfl, hcn⟩ := hn.slice
  obtain ⟨ak, ck, rfl, hck⟩ := hk.slice
  have hcl := hC.lt
  obtain ⟨z, hz⟩ : ∃ z : Int, z = (n : Int) := ⟨_, rfl⟩
  rw [← hz] at hC
  have HC := hide hC
  have hkl := hSm.k
  obtain ⟨hcc, hcf⟩ := hC
  have hS0 : Sole c w ((w.setCell ⟨c, 0, none⟩ (.int .i64 (z + 1))).alloc (.cells #[.int .i64 2, .bool x, .slice ad d.size cd, .slice an ns.length cn, .slice ak ks.length ck] 26)) := (((Sole.refl c w).setCell 0 _).alloc _)
  have hB0 : Bx ((w.setCell ⟨c, 0, none⟩ (.int .i64 (z + 1))).alloc (.cells #[.int .i64 2, .bool x, .slice ad d.size cd, .slice an ns.length cn, .slice ak ks.length ck] 26)) w.heap.size (.int .i64 2) (.bool x) (.slice ad d.size cd) (.slice an ns.length cn) (.slice ak ks.length ck) := bx_new' _ _ _ _ _ _ _ _
  have hC0 : Ctr ((w.setCell ⟨c, 0, none⟩ (.int .i64 (z + 1))).alloc (.cells #[.int .i64 2, .bool x, .slice ad d.size cd, .slice an ns.length cn, .slice ak ks.length ck] 26)) c (.int .i64 (z + 1)) :=
    ((unhide HC).set (.int .i64 (z + 1))).below ((Below.refl w.heap.size _).alloc (by simp) (.cells #[.int .i64 2, .bool x, .slice ad d.size cd, .slice an ns.length cn, .slice ak ks.length ck] 26)) hcl
  have H0 := hide (And.intro hS0 (And.intro hB0 hC0))
  have HH : Hid (∀ v0 v1 v2 v3 v4, Sole c w ((w.setCell ⟨c, 0, none⟩ (.int .i64 (z + 1))).alloc (.cells #[v0, v1, v2, v3, v4] 26)) ∧ Ctr ((w.setCell ⟨c, 0, none⟩ (.int .i64 (z + 1))).alloc (.cells #[v0, v1, v2, v3, v4] 26)) c (.int .i64 (z + 1))) := fun v0 v1 v2 v3 v4 =>
    ⟨(((Sole.refl c w).setCell 0 _).alloc _), ((unhide HC).set (.int .i64 (z + 1))).below ((Below.refl w.heap.size _).alloc (by simp) (.cells #[v0, v1, v2, v3, v4] 26)) hcl⟩
  clear hS0 hB0 hC0
  obtain ⟨E, M, hEM⟩ : ∃ E M, chk (.mk 2 x d ns ks) deep n = (E, M) := ⟨_, _, rfl⟩
  rw [hEM]
  simp only
  have HEM := hide hEM
  clear hEM
  have hn1 : z ≤ 1000000 := by omega
  have hn2 : 0 ≤ z := by omega
  have HZ : Hid (((n + 1 : Nat) : Int) = z + 1) := by show ((n + 1 : Nat) : Int) = z + 1; omega
  have hd1 : (deep : Int) ≤ 1000 := by omega
  have hkl1 : (ks.length : Int) ≤ 1000000 := by omega
  have hbig1 : ¬ (65536 : Int) < z + 1 := by omega
  have hbig2 : ¬ (64 : Int) < (deep : Int) := by omega
  have HNb : Hid (n + 1 ≤ 65536) := by show n + 1 ≤ 65536; omega
  have HD0 := hide (show deep ≤ 64 by omega)
  by_cases hform : x = true ∨ 0 < d.size ∨ ns.length ≠ ks.length
  · have HE : (3, n + 1) = (E, M) := by rw [← unhide HEM, chk, if_neg hbig, if_neg (by rw [loc_two_no hform]; omega), loc_two_no hform]
    obtain ⟨hE, rfl⟩ := Prod.mk.inj HE
    rw [unhide HZ]
    clear HE HEM hn0 hd0 hkl hz HZ HNb HD0 hSm hW hd hn hk hK hl hbig
    subst hE
    cases hx : x
    case true =>
      subst hx
      go_enter Tryd.func30, Tryd.ntmps30
      go_wp2_with fail
      all_goals go_ret
      all_goals exact ⟨rfl, (unhide HH _ _ _ _ _).1, (unhide HH _ _ _ _ _).2⟩
    subst hx
    by_cases hd5 : 0 < d.size
    · clear hform
      go_enter Tryd.func30, Tryd.ntmps30
      go_wp2_with fail
      all_goals go_ret
      all_goals exact ⟨rfl, (unhide HH _ _ _ _ _).1, (unhide HH _ _ _ _ _).2⟩
    · have hne : ((ns.length : Int) == (ks.length : Int)) = false := by
        rw [beq_eq_false_iff_ne]
        rcases hform with h | h | h
        · cases h
        · omega
        · omega
      have hd6 : d.size = 0 := by omega
      clear hform hd5
      by_cases hn3 : 0 < ns.length
      case neg =>
        obtain rfl : ns = [] := List.eq_nil_of_length_eq_zero (by omega)
        have hk3 : 0 < ks.length := by
          rw [beq_eq_false_iff_ne] at hne
          by_cases h : ks.length = 0
          · rw [h] at hne; exact absurd rfl hne
          · omega
        have hne' : ((0 : Int) == (ks.length : Int)) = false := hne
        clear hne
        go_enter Tryd.func30, Tryd.ntmps30
        go_wp2_with fail
        all_goals go_ret
        all_goals exact ⟨rfl, (unhide HH _ _ _ _ _).1, (unhide HH _ _ _ _ _).2⟩
      go_enter Tryd.func30, Tryd.ntmps30
      go_wp2_with fail
      all_goals go_ret
      all_goals exact ⟨rfl, (unhide HH _ _ _ _ _).1, (unhide HH _ _ _ _ _).2⟩
  obtain ⟨rfl, hd6, hlen⟩ : x = false ∧ d.size = 0 ∧ ns.length = ks.length := by
    refine ⟨?_, ?_, ?_⟩
    · cases x
      · rfl
      · exact absurd (.inl rfl) hform
    · by_cases h : d.size = 0
      · exact h
      · exact absurd (.inr (.inl (by omega))) hform
    · by_cases h : ns.length = ks.length
      · exact h
      · exact absurd (.inr (.inr h)) hform
  have hn3 : ns.length = 0 := by
    rcases hodd with h | h
    · exact absurd h hform
    · exact h
  clear hform hodd
  have HY : Hid (okNames ns → chks ks (deep + 1) (n + 1) = (E, M)) := fun hok => by
    rw [← unhide HEM, chk, if_neg hbig, hd6, ← hlen, if_pos (loc_dir_ok hok)]
  have HX : Hid (¬ okNames ns → (9, n + 1) = (E, M)) := fun hok => by
    rw [← unhide HEM, chk, if_neg hbig, hd6, ← hlen, loc_dir_no hok, if_neg (by omega)]
  clear HEM
  have HSm := hide hSm
  have HR := hide (And.intro hn (And.intro hk (And.intro hl hK)))
  clear hd hn hk hK hl hSm hW hbig hn0 hd0 hkl hz
  rw [hd6] at H0
  · obtain rfl : ns = [] := List.eq_nil_of_length_eq_zero hn3
    obtain rfl : ks = [] := List.eq_nil_of_length_eq_zero (by rw [← hlen]; rfl)
    have h := unhide HY (okNames_nil rfl)
    rw [chks] at h
    obtain ⟨rfl, rfl⟩ := Prod.mk.inj h
    rw [unhide HZ]
    clear h HX HY HZ HNb HD0 HSm HR hlen hn3 hkl1
    go_enter Tryd.func30, Tryd.ntmps30
    go_wp2_with fail
    go_loopw [8] (fun vi wr => vi = .int .i64 0 ∧ Sole c w wr ∧ Ctr wr c (.int .i64 (z + 1)) ∧ Bx wr w.heap.size (.int .i64 2) (.bool false) (.slice ad 0 cd) (.slice an 0 cn) (.slice ak 0 ck)) (fun _ _ => 0)
    case atStart => exact ⟨rfl, (unhide H0).1, (unhide H0).2.2, (unhide H0).2.1⟩
    case round =>
      obtain ⟨rfl, hS, hC, hB⟩ := hrel
      obtain ⟨c0, c1, c2, c3, c4⟩ := hB.cells
      go_wp2_with fail
      clear c0 c1 c2 c3 c4
      go_loopw [9] (fun vi wr => vi = .int .i64 0 ∧ Sole c w wr ∧ Ctr wr c (.int .i64 (z + 1)) ∧ Bx wr w.heap.size (.int .i64 2) (.bool false) (.slice ad 0 cd) (.slice an 0 cn) (.slice ak 0 ck)) (fun _ _ => 0)
      case atStart => exact ⟨rfl, hS, hC, hB⟩
      case round =>
        clear hS hC hB
        obtain ⟨rfl, hS, hC, hB⟩ := hrel
        obtain ⟨c0, c1, c2, c3, c4⟩ := hB.cells
        go_wp2_with fail
        go_ret
        exact ⟨rfl, hS, hC⟩
end Go.Proofs.YthfjofmfiklegaaDoor
