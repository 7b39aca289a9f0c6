import Derived.Test.YthfjofmfiklegaaDoorK1
import Derived.Lib.AppendZerosOnto
/- Check, in the code: every node and all below. -/
namespace Go.Proofs.YthfjofmfiklegaaDoor
open Go.RowKit
set_option maxRecDepth 20000 in
set_option maxHeartbeats 1000000 in
theorem chkC_any (T : Tr) : ∀ (lo hi : Nat) (cs : List Value) (w : World) (c deep n : Nat), Lies lo hi w T cs → wt T ≤ 100000 → Ctr w c (.int .i64 (n : Int)) → hi ≤ c → n ≤ 65536 → deep ≤ 65 →
    Calls Tryd.prog 29 #[.agg cs.toArray, .int .i64 (deep : Int), .pointer (some ⟨c, 0, none⟩)] w fun e w' => e = .returned (.int .i64 (((chk T deep n).1 : Nat) : Int)) ∧ Sole c w w' ∧ Ctr w' c (.int .i64 (((chk T deep n).2 : Nat) : Int)) := by
  induction T using Tr.ind with
  | h k x d ns ks ih =>
  intro lo hi cs w c deep n hL hW hC hhi hn0 hd0
  have hSm := small_of hW
  cases hL with
  | mk _ _ _ _ _ vd vn vk Ks hl hd hn hk hK =>
  obtain ⟨ad, cd, rfl, hcd⟩ := hd.slice
  obtain ⟨an, cn, rfl, hcn⟩ := hn.slice
  obtain ⟨ak, ck, rfl, hck⟩ := hk.slice
  have hcl := hC.lt
  obtain ⟨z, hz⟩ : ∃ z : Int, z = (n : Int) := ⟨_, rfl⟩
  rw [← hz] at hC
  have HC := hide hC
  have hkl := hSm.k
  obtain ⟨hcc, hcf⟩ := hC
  have hS0 : Sole c w ((w.setCell ⟨c, 0, none⟩ (.int .i64 (z + 1))).alloc (.cells #[.int .i64 k, .bool x, .slice ad d.size cd, .slice an ns.length cn, .slice ak ks.length ck] 26)) := (((Sole.refl c w).setCell 0 _).alloc _)
  have hB0 : Bx ((w.setCell ⟨c, 0, none⟩ (.int .i64 (z + 1))).alloc (.cells #[.int .i64 k, .bool x, .slice ad d.size cd, .slice an ns.length cn, .slice ak ks.length ck] 26)) w.heap.size (.int .i64 k) (.bool x) (.slice ad d.size cd) (.slice an ns.length cn) (.slice ak ks.length ck) := bx_new' _ _ _ _ _ _ _ _
  have hC0 : Ctr ((w.setCell ⟨c, 0, none⟩ (.int .i64 (z + 1))).alloc (.cells #[.int .i64 k, .bool x, .slice ad d.size cd, .slice an ns.length cn, .slice ak ks.length ck] 26)) c (.int .i64 (z + 1)) :=
    ((unhide HC).set (.int .i64 (z + 1))).below ((Below.refl w.heap.size _).alloc (by simp) (.cells #[.int .i64 k, .bool x, .slice ad d.size cd, .slice an ns.length cn, .slice ak ks.length ck] 26)) hcl
  have H0 := hide (And.intro hS0 (And.intro hB0 hC0))
  clear hS0 hB0 hC0
  obtain ⟨E, M, hEM⟩ : ∃ E M, chk (.mk k x d ns ks) deep n = (E, M) := ⟨_, _, rfl⟩
  rw [hEM]
  simp only
  have HEM := hide hEM
  clear hEM
  have hn1 : z ≤ 1000000 := by omega
  have hn2 : 0 ≤ z := by omega
  have HZ : Hid (((n + 1 : Nat) : Int) = z + 1) := by show ((n + 1 : Nat) : Int) = z + 1; omega
  have hd1 : (deep : Int) ≤ 1000 := by omega
  have hkl1 : (ks.length : Int) ≤ 1000000 := by omega
  by_cases hbig : 65536 < n + 1 ∨ 64 < deep
  · have HE : (5, n + 1) = (E, M) := by rw [← unhide HEM, chk, if_pos hbig]
    obtain ⟨rfl, rfl⟩ := Prod.mk.inj HE
    clear HE HEM
    clear hd hn hk hK hl ih hSm hW
    have hbig' : (65536 : Int) < z + 1 ∨ (64 : Int) < (deep : Int) := by omega
    clear hbig
    rw [unhide HZ]
    clear hn0 hd0 hkl hz HZ
    rcases hbig' with hbig | hbig
    all_goals
      go_enter Tryd.func29, Tryd.ntmps29
      go_wp2_with fail
      all_goals go_ret
      all_goals exact ⟨rfl, (unhide H0).1, (unhide H0).2.2⟩
  have hbig1 : ¬ (65536 : Int) < z + 1 := by omega
  have HNb : Hid (n + 1 ≤ 65536) := by show n + 1 ≤ 65536; omega
  have hbig2 : ¬ (64 : Int) < (deep : Int) := by omega
  have HE : Hid ((E, M) = if locErr k x d.size ns ks.length = 0 then chks ks (deep + 1) (n + 1) else (locErr k x d.size ns ks.length, n + 1)) := by show (E, M) = _; rw [← unhide HEM, chk, if_neg hbig]
  clear HEM
  have HN := hide (fun w (h : Row lo hi w (.slice an ns.length cn) ns.length (ns.map .string)) (hw : hi ≤ w.heap.size) => node_any lo hi k x d.size ns ad an ak ks.length cd cn ck w (by have := hSm.d; omega) (by have := hSm.n; omega) (by have := hSm.k; omega) (fun s hs => by have := hSm.s s hs; omega) h hw)
  have HT := hide hSm.t
  have HR := hide (And.intro hn (And.intro hk (And.intro hl hK)))
  have HN0 := hide hn0
  have HD0 := hide (show deep ≤ 64 by omega)
  clear hd hn hk hK hl hSm hW hbig hn0 hd0 hkl hz
  go_enter Tryd.func29, Tryd.ntmps29
  go_wp2_with fail
  obtain ⟨hS0, hB0, hC0⟩ := unhide H0
  clear H0 hcc hcf HC
  generalize (w.setCell ⟨c, 0, none⟩ (.int .i64 (z + 1))).alloc (.cells #[.int .i64 k, .bool x, .slice ad d.size cd, .slice an ns.length cn, .slice ak ks.length ck] 26) = w1 at *
  rw [← unhide HZ] at hC0
  have hz1 := hS0.size
  refine (unhide HN _ ((unhide HR).1.below (hS0.below hhi (by omega)) (Nat.le_refl _)) (by omega)).mono ?_
  rintro e w2 ⟨rfl, hb2⟩
  have hS2 : Sole c w w2 := hS0.trans (Sole.of_below hb2)
  have hB2 := hB0.kept hb2 hB0.lt
  have hC2 := hC0.below hb2 hC0.lt
  clear HN hb2 hS0 hB0 hC0
  by_cases hloc : locErr k x d.size ns ks.length = 0
  case neg =>
    have hne : (((locErr k x d.size ns ks.length : Nat) : Int) == 0) = false := by rw [beq_eq_false_iff_ne]; omega
    have HE' := unhide HE
    rw [if_neg hloc] at HE'
    obtain ⟨rfl, rfl⟩ := Prod.mk.inj HE'
    clear hloc HE HE'
    go_wp2_with fail
    go_ret
    exact ⟨rfl, hS2, hC2⟩
  have HE' : Hid (chks ks (deep + 1) (n + 1) = (E, M)) := by show _ = (E, M); rw [unhide HE, if_pos hloc]
  rw [hloc]
  clear HE hloc
  obtain ⟨c0, c1, c2, c3, c4⟩ := hB2.cells
  go_wp2_with fail
  clear c0 c1 c2 c3 c4
  go_loopw [32] (fun vi wr => ∃ i m : Nat, i ≤ ks.length ∧ vi = .int .i64 (i : Int) ∧ Sole c w wr ∧ Ctr wr c (.int .i64 (m : Int)) ∧ Hid (m ≤ 65536) ∧ Hid (chks (ks.drop i) (deep + 1) m = (E, M))) (fun vi _ => ks.length - (intOf vi).toNat)
  case atStart => exact ⟨0, n + 1, by omega, rfl, hS2, hC2, HNb, HE'⟩
  case round =>
    obtain ⟨i, m, hik, rfl, hS, hC, hm, hq⟩ := hrel
    by_cases hlt : i < ks.length
    · obtain ⟨g, o, rfl, hg1, hg2, hcell⟩ := (unhide HR).2.1.at (by omega)
      obtain ⟨hl, hK⟩ := (unhide HR).2.2
      have hbel := hS.below (base := hi) hhi (by omega)
      have hcell' : ∀ j u, Ks.flatten[j]? = some u → wr.cell? ⟨g, o + j, none⟩ = some u := fun j u hj => by rw [hbel.cell (p := ⟨g, o + j, none⟩) hg2]; exact hcell j u hj
      obtain ⟨k', x', a1, n1, c1, a2, n2, c2, a3, n3, c3, hLi, z0, z1, z2, z3, z4⟩ := kid_sl hl hcell' (fun i t c h1 h2 => (hK i t c h1 h2).kept hbel (Nat.le_refl _)) i hlt
      have hzr := hS.size
      have HI := hide (fun w' (h : Lies lo hi w' ks[i] [.int .i64 k', .bool x', Value.slice a1 n1 c1, Value.slice a2 n2 c2, Value.slice a3 n3 c3]) (hc : Ctr w' c (.int .i64 (m : Int))) => ih ks[i] (List.getElem_mem hlt) lo hi _ w' c (deep + 1) m h (unhide HT _ (List.getElem_mem hlt)) hc hhi (unhide hm) (by have := unhide HD0; omega))
      have HLi := hide hLi
      have HQ := hide (chks_step ks i (deep + 1) m hlt)
      have HM := hide (chk_ok ks[i] (deep + 1) m)
      have HCr := hide hC
      clear hcell hcell' hl hK hLi hC
      generalize ks[i] = t at *
      go_wp2_with fail
      have hbr : Below wr.heap.size wr (wr.alloc (.cells #[.int .i64 k', .bool x', Value.slice a1 n1 c1, Value.slice a2 n2 c2, Value.slice a3 n3 c3] 26)) := (Below.refl _ _).alloc (Nat.le_refl _) _
      refine (unhide HI _ ((unhide HLi).kept hbr (by omega)) ((unhide HCr).below hbr (by omega))).mono ?_
      rintro e w3 ⟨rfl, hS3, hC3⟩
      have hS4 : Sole c w w3 := (hS.alloc _).trans hS3
      clear hS3 hbr HI HLi HCr z0 z1 z2 z3 z4
      by_cases he : (chk t (deep + 1) m).1 = 0
      · have hq' : Hid (chks (ks.drop (i + 1)) (deep + 1) (chk t (deep + 1) m).2 = (E, M)) := by
          have h := unhide HQ
          rw [if_pos he, unhide hq] at h
          exact h.symm
        have hm' : Hid ((chk t (deep + 1) m).2 ≤ 65536) := unhide HM he
        rw [he]
        clear HQ HM he hq hm
        generalize (chk t (deep + 1) m).2 = m' at *
        have HS4 := hide (And.intro hS4 hC3)
        clear hC3 hS4
        go_wp2_with fail
        go_roundw
        case rel => exact ⟨i + 1, m', by omega, by go_num, (unhide HS4).1, (unhide HS4).2, hm', hq'⟩
        case measure => simp [intOf]; omega
      · have h := unhide HQ
        rw [if_neg he, unhide hq] at h
        have hne : ((((chk t (deep + 1) m).1 : Nat) : Int) == 0) = false := by rw [beq_eq_false_iff_ne]; omega
        rw [← h] at hC3 hne ⊢
        clear HQ HM he hq hm h
        go_wp2_with fail
        go_ret
        exact ⟨rfl, hS4, hC3⟩
    · obtain rfl : i = ks.length := by omega
      have HF := unhide hq
      rw [chks_end] at HF
      obtain ⟨rfl, rfl⟩ := Prod.mk.inj HF
      clear HF hq HE'
      go_wp2_with fail
      go_ret
      exact ⟨rfl, hS, hC⟩
end Go.Proofs.YthfjofmfiklegaaDoor
/- Check, in the document's own answer. -/
namespace Go.Proofs.YthfjofmfiklegaaDoor
open Go.RowKit
theorem loc_one {x : Bool} {d nk : Nat} {ns : List ByteArray} : locErr 1 x d ns nk = if 0 < ns.length ∨ 0 < nk then 3 else if 1048576 < d then 5 else 0 := by unfold locErr; rw [if_pos rfl]
theorem loc_three {x : Bool} {d nk : Nat} {ns : List ByteArray} : locErr 3 x d ns nk = if 0 < ns.length ∨ 0 < nk ∨ x = true then 3 else if 1000 < d then 5 else if d = 0 then 3 else 0 := by unfold locErr; rw [if_neg (by omega), if_pos rfl]
theorem loc_two_no {x : Bool} {d nk : Nat} {ns : List ByteArray} (h : x = true ∨ 0 < d ∨ ns.length ≠ nk) : locErr 2 x d ns nk = 3 := by unfold locErr; rw [if_neg (by omega), if_neg (by omega), if_pos rfl, if_pos h]
theorem loc_else {k : Int} {x : Bool} {d nk : Nat} {ns : List ByteArray} (h1 : k ≠ 1) (h2 : k ≠ 2) (h3 : k ≠ 3) : locErr k x d ns nk = 3 := by unfold locErr; rw [if_neg h1, if_neg h3, if_neg h2]
/-- What is no directory has no kids that are asked. -/
theorem chk_flat {k : Int} {x : Bool} {d : ByteArray} {ns : List ByteArray} {ks : List Tr} {deep n : Nat} (hk : k ≠ 2) (hb : ¬ (65536 < n + 1 ∨ 64 < deep)) : chk (.mk k x d ns ks) deep n = (locErr k x d.size ns ks.length, n + 1) := by
  rw [chk, if_neg hb]
  split
  · rename_i h0
    have hz : ks.length = 0 := by
      unfold locErr at h0
      split at h0
      · split at h0
        · omega
        · omega
      · split at h0
        · split at h0
          · omega
          · omega
        · omega
    obtain rfl : ks = [] := List.eq_nil_of_length_eq_zero hz
    rw [chks, h0]
  · rfl
set_option maxRecDepth 20000 in
set_option maxHeartbeats 1000000 in
theorem chkR_flat (k : Int) (x : Bool) (d : ByteArray) (ns : List ByteArray) (ks : List Tr) (lo hi : Nat) (cs : List Value) (w : World) (c deep n : Nat) (hL : Lies lo hi w (.mk k x d ns ks) cs) (hW : wt (.mk k x d ns ks) ≤ 100000) (hC : Ctr w c (.int .i64 (n : Int))) (_ : hi ≤ c) (hn0 : n ≤ 65536) (hd0 : deep ≤ 65)
    (hflat : k ≠ 2 ∨ 65536 < n + 1 ∨ 64 < deep) :
    Calls Tryd.prog 30 #[.agg cs.toArray, .int .i64 (deep : Int), .pointer (some ⟨c, 0, none⟩)] w fun e w' => e = .returned (.int .i64 (((chk (.mk k x d ns ks) deep n).1 : Nat) : Int)) ∧ Sole c w w' ∧ Ctr w' c (.int .i64 (((chk (.mk k x d ns ks) deep n).2 : Nat) : Int)) := by
  have hSm := small_of hW
  cases hL with
  | mk _ _ _ _ _ vd vn vk Ks hl hd hn hk hK =>
  obtain ⟨ad, cd, rfl, hcd⟩ := hd.slice
  obtain ⟨an, cn, rfl, hcn⟩ := hn.slice
  obtain ⟨ak, ck, rfl, hck⟩ := hk.slice
  have hcl := hC.lt
  obtain ⟨z, hz⟩ : ∃ z : Int, z = (n : Int) := ⟨_, rfl⟩
  rw [← hz] at hC
  have HC := hide hC
  have hkl := hSm.k
  obtain ⟨hcc, hcf⟩ := hC
  have hS0 : Sole c w ((w.setCell ⟨c, 0, none⟩ (.int .i64 (z + 1))).alloc (.cells #[.int .i64 k, .bool x, .slice ad d.size cd, .slice an ns.length cn, .slice ak ks.length ck] 26)) := (((Sole.refl c w).setCell 0 _).alloc _)
  have hB0 : Bx ((w.setCell ⟨c, 0, none⟩ (.int .i64 (z + 1))).alloc (.cells #[.int .i64 k, .bool x, .slice ad d.size cd, .slice an ns.length cn, .slice ak ks.length ck] 26)) w.heap.size (.int .i64 k) (.bool x) (.slice ad d.size cd) (.slice an ns.length cn) (.slice ak ks.length ck) := bx_new' _ _ _ _ _ _ _ _
  have hC0 : Ctr ((w.setCell ⟨c, 0, none⟩ (.int .i64 (z + 1))).alloc (.cells #[.int .i64 k, .bool x, .slice ad d.size cd, .slice an ns.length cn, .slice ak ks.length ck] 26)) c (.int .i64 (z + 1)) :=
    ((unhide HC).set (.int .i64 (z + 1))).below ((Below.refl w.heap.size _).alloc (by simp) (.cells #[.int .i64 k, .bool x, .slice ad d.size cd, .slice an ns.length cn, .slice ak ks.length ck] 26)) hcl
  have H0 := hide (And.intro hS0 (And.intro hB0 hC0))
  clear hS0 hB0 hC0
  obtain ⟨E, M, hEM⟩ : ∃ E M, chk (.mk k x d ns ks) deep n = (E, M) := ⟨_, _, rfl⟩
  rw [hEM]
  simp only
  have HEM := hide hEM
  clear hEM
  have hn1 : z ≤ 1000000 := by omega
  have hn2 : 0 ≤ z := by omega
  have HZ : Hid (((n + 1 : Nat) : Int) = z + 1) := by show ((n + 1 : Nat) : Int) = z + 1; omega
  have hd1 : (deep : Int) ≤ 1000 := by omega
  have hkl1 : (ks.length : Int) ≤ 1000000 := by omega
  by_cases hbig : 65536 < n + 1 ∨ 64 < deep
  · have HE : (5, n + 1) = (E, M) := by rw [← unhide HEM, chk, if_pos hbig]
    obtain ⟨rfl, rfl⟩ := Prod.mk.inj HE
    clear HE HEM
    clear hd hn hk hK hl hSm hW hflat
    have hbig' : (65536 : Int) < z + 1 ∨ (64 : Int) < (deep : Int) := by omega
    clear hbig
    rw [unhide HZ]
    clear hn0 hd0 hkl hz HZ
    rcases hbig' with hbig | hbig
    all_goals
      go_enter Tryd.func30, Tryd.ntmps30
      go_wp2_with fail
      all_goals go_ret
      all_goals exact ⟨rfl, (unhide H0).1, (unhide H0).2.2⟩
  have hbig1 : ¬ (65536 : Int) < z + 1 := by omega
  have hbig2 : ¬ (64 : Int) < (deep : Int) := by omega
  have HNb : Hid (n + 1 ≤ 65536) := by show n + 1 ≤ 65536; omega
  have HD0 := hide (show deep ≤ 64 by omega)
  have hk2 : k ≠ 2 := by rcases hflat with h | h | h
                         · exact h
                         · omega
                         · omega
  · clear hflat
    have HE : (locErr k x d.size ns ks.length, n + 1) = (E, M) := by rw [← unhide HEM, chk_flat hk2 hbig]
    obtain ⟨hE, rfl⟩ := Prod.mk.inj HE
    rw [unhide HZ]
    clear HE HEM hn0 hd0 hkl hz HZ HNb HD0 hSm hW hd hn hk hK hl hbig
    by_cases hk1 : k = 1
    · subst hk1
      rw [loc_one] at hE
      by_cases hn3 : 0 < ns.length
      · rw [if_pos (.inl hn3)] at hE
        subst hE
        go_enter Tryd.func30, Tryd.ntmps30
        go_wp2_with fail
        all_goals go_ret
        all_goals exact ⟨rfl, (unhide H0).1, (unhide H0).2.2⟩
      by_cases hk3 : 0 < ks.length
      · rw [if_pos (.inr hk3)] at hE
        subst hE
        go_enter Tryd.func30, Tryd.ntmps30
        go_wp2_with fail
        all_goals go_ret
        all_goals exact ⟨rfl, (unhide H0).1, (unhide H0).2.2⟩
      rw [if_neg (by omega)] at hE
      by_cases hd5 : 1048576 < d.size
      · rw [if_pos hd5] at hE
        subst hE
        go_enter Tryd.func30, Tryd.ntmps30
        go_wp2_with fail
        all_goals go_ret
        all_goals exact ⟨rfl, (unhide H0).1, (unhide H0).2.2⟩
      · rw [if_neg hd5] at hE
        subst hE
        go_enter Tryd.func30, Tryd.ntmps30
        go_wp2_with fail
        all_goals go_ret
        all_goals exact ⟨rfl, (unhide H0).1, (unhide H0).2.2⟩
    by_cases hk3 : k = 3
    · subst hk3
      rw [loc_three] at hE
      by_cases hn3 : 0 < ns.length
      · rw [if_pos (.inl hn3)] at hE
        subst hE
        go_enter Tryd.func30, Tryd.ntmps30
        go_wp2_with fail
        all_goals go_ret
        all_goals exact ⟨rfl, (unhide H0).1, (unhide H0).2.2⟩
      by_cases hk3 : 0 < ks.length
      · rw [if_pos (.inr (.inl hk3))] at hE
        subst hE
        go_enter Tryd.func30, Tryd.ntmps30
        go_wp2_with fail
        all_goals go_ret
        all_goals exact ⟨rfl, (unhide H0).1, (unhide H0).2.2⟩
      cases hx : x
      case true =>
        rw [if_pos (.inr (.inr hx))] at hE
        subst hx
        subst hE
        go_enter Tryd.func30, Tryd.ntmps30
        go_wp2_with fail
        all_goals go_ret
        all_goals exact ⟨rfl, (unhide H0).1, (unhide H0).2.2⟩
      rw [if_neg (by rw [hx]; simp only [Bool.false_eq_true, or_false]; omega)] at hE
      subst hx
      by_cases hd5 : 1000 < d.size
      · rw [if_pos hd5] at hE
        subst hE
        go_enter Tryd.func30, Tryd.ntmps30
        go_wp2_with fail
        all_goals go_ret
        all_goals exact ⟨rfl, (unhide H0).1, (unhide H0).2.2⟩
      rw [if_neg hd5] at hE
      by_cases hd6 : d.size = 0
      · rw [if_pos hd6] at hE
        rw [hd6] at H0
        subst hE
        go_enter Tryd.func30, Tryd.ntmps30
        go_wp2_with fail
        all_goals go_ret
        all_goals exact ⟨rfl, (unhide H0).1, (unhide H0).2.2⟩
      · rw [if_neg hd6] at hE
        have hd7 : ((d.size : Int) == 0) = false := by rw [beq_eq_false_iff_ne]; omega
        subst hE
        go_enter Tryd.func30, Tryd.ntmps30
        go_wp2_with fail
        all_goals go_ret
        all_goals exact ⟨rfl, (unhide H0).1, (unhide H0).2.2⟩
    rw [loc_else hk1 hk2 hk3] at hE
    have e1 : (k == 1) = false := by simpa using hk1
    have e2 : (k == 2) = false := by simpa using hk2
    have e3 : (k == 3) = false := by simpa using hk3
    clear hk1 hk2 hk3
    by_cases hn3 : 0 < ns.length
    · subst hE
      go_enter Tryd.func30, Tryd.ntmps30
      go_wp2_with fail
      all_goals go_ret
      all_goals exact ⟨rfl, (unhide H0).1, (unhide H0).2.2⟩
    obtain rfl : ns = [] := List.eq_nil_of_length_eq_zero (by omega)
    by_cases hk3 : 0 < ks.length
    · subst hE
      go_enter Tryd.func30, Tryd.ntmps30
      go_wp2_with fail
      all_goals go_ret
      all_goals exact ⟨rfl, (unhide H0).1, (unhide H0).2.2⟩
    obtain rfl : ks = [] := List.eq_nil_of_length_eq_zero (by omega)
    subst hE
    go_enter Tryd.func30, Tryd.ntmps30
    go_wp2_with fail
    all_goals go_ret
    all_goals exact ⟨rfl, (unhide H0).1, (unhide H0).2.2⟩
end Go.Proofs.YthfjofmfiklegaaDoor
/- Check, in the document's own answer: a directory that is none, or empty. -/
namespace Go.Proofs.YthfjofmfiklegaaDoor
open Go.RowKit
set_option maxRecDepth 20000 in
set_option maxHeartbeats 1000000 in
theorem chkR_odd (x : Bool) (d : ByteArray) (ns : List ByteArray) (ks : List Tr) (lo hi : Nat) (cs : List Value) (w : World) (c deep n : Nat) (hL : Lies lo hi w (.mk 2 x d ns ks) cs) (hW : wt (.mk 2 x d ns ks) ≤ 100000) (hC : Ctr w c (.int .i64 (n : Int))) (_ : hi ≤ c) (hn0 : n ≤ 65536) (hd0 : deep ≤ 65) (hbig : ¬ (65536 < n + 1 ∨ 64 < deep)) (hodd : (x = true ∨ 0 < d.size ∨ ns.length ≠ ks.length) ∨ ns.length = 0) :
    Calls Tryd.prog 30 #[.agg cs.toArray, .int .i64 (deep : Int), .pointer (some ⟨c, 0, none⟩)] w fun e w' => e = .returned (.int .i64 (((chk (.mk 2 x d ns ks) deep n).1 : Nat) : Int)) ∧ Sole c w w' ∧ Ctr w' c (.int .i64 (((chk (.mk 2 x d ns ks) deep n).2 : Nat) : Int)) := by
  have hSm := small_of hW
  cases hL with
  | mk _ _ _ _ _ vd vn vk Ks hl hd hn hk hK =>
  obtain ⟨ad, cd, rfl, hcd⟩ := hd.slice
  obtain ⟨an, cn, rfl, hcn⟩ := hn.slice
  obtain ⟨ak, ck, rfl, hck⟩ := hk.slice
  have hcl := hC.lt
  obtain ⟨z, hz⟩ : ∃ z : Int, z = (n : Int) := ⟨_, rfl⟩
  rw [← hz] at hC
  have HC := hide hC
  have hkl := hSm.k
  obtain ⟨hcc, hcf⟩ := hC
  have hS0 : Sole c w ((w.setCell ⟨c, 0, none⟩ (.int .i64 (z + 1))).alloc (.cells #[.int .i64 2, .bool x, .slice ad d.size cd, .slice an ns.length cn, .slice ak ks.length ck] 26)) := (((Sole.refl c w).setCell 0 _).alloc _)
  have hB0 : Bx ((w.setCell ⟨c, 0, none⟩ (.int .i64 (z + 1))).alloc (.cells #[.int .i64 2, .bool x, .slice ad d.size cd, .slice an ns.length cn, .slice ak ks.length ck] 26)) w.heap.size (.int .i64 2) (.bool x) (.slice ad d.size cd) (.slice an ns.length cn) (.slice ak ks.length ck) := bx_new' _ _ _ _ _ _ _ _
  have hC0 : Ctr ((w.setCell ⟨c, 0, none⟩ (.int .i64 (z + 1))).alloc (.cells #[.int .i64 2, .bool x, .slice ad d.size cd, .slice an ns.length cn, .slice ak ks.length ck] 26)) c (.int .i64 (z + 1)) :=
    ((unhide HC).set (.int .i64 (z + 1))).below ((Below.refl w.heap.size _).alloc (by simp) (.cells #[.int .i64 2, .bool x, .slice ad d.size cd, .slice an ns.length cn, .slice ak ks.length ck] 26)) hcl
  have H0 := hide (And.intro hS0 (And.intro hB0 hC0))
  have HH : Hid (∀ v0 v1 v2 v3 v4, Sole c w ((w.setCell ⟨c, 0, none⟩ (.int .i64 (z + 1))).alloc (.cells #[v0, v1, v2, v3, v4] 26)) ∧ Ctr ((w.setCell ⟨c, 0, none⟩ (.int .i64 (z + 1))).alloc (.cells #[v0, v1, v2, v3, v4] 26)) c (.int .i64 (z + 1))) := fun v0 v1 v2 v3 v4 =>
    ⟨(((Sole.refl c w).setCell 0 _).alloc _), ((unhide HC).set (.int .i64 (z + 1))).below ((Below.refl w.heap.size _).alloc (by simp) (.cells #[v0, v1, v2, v3, v4] 26)) hcl⟩
  clear hS0 hB0 hC0
  obtain ⟨E, M, hEM⟩ : ∃ E M, chk (.mk 2 x d ns ks) deep n = (E, M) := ⟨_, _, rfl⟩
  rw [hEM]
  simp only
  have HEM := hide hEM
  clear hEM
  have hn1 : z ≤ 1000000 := by omega
  have hn2 : 0 ≤ z := by omega
  have HZ : Hid (((n + 1 : Nat) : Int) = z + 1) := by show ((n + 1 : Nat) : Int) = z + 1; omega
  have hd1 : (deep : Int) ≤ 1000 := by omega
  have hkl1 : (ks.length : Int) ≤ 1000000 := by omega
  have hbig1 : ¬ (65536 : Int) < z + 1 := by omega
  have hbig2 : ¬ (64 : Int) < (deep : Int) := by omega
  have HNb : Hid (n + 1 ≤ 65536) := by show n + 1 ≤ 65536; omega
  have HD0 := hide (show deep ≤ 64 by omega)
  by_cases hform : x = true ∨ 0 < d.size ∨ ns.length ≠ ks.length
  · have HE : (3, n + 1) = (E, M) := by rw [← unhide HEM, chk, if_neg hbig, if_neg (by rw [loc_two_no hform]; omega), loc_two_no hform]
    obtain ⟨hE, rfl⟩ := Prod.mk.inj HE
    rw [unhide HZ]
    clear HE HEM hn0 hd0 hkl hz HZ HNb HD0 hSm hW hd hn hk hK hl hbig
    subst hE
    cases hx : x
    case true =>
      subst hx
      go_enter Tryd.func30, Tryd.ntmps30
      go_wp2_with fail
      all_goals go_ret
      all_goals exact ⟨rfl, (unhide HH _ _ _ _ _).1, (unhide HH _ _ _ _ _).2⟩
    subst hx
    by_cases hd5 : 0 < d.size
    · clear hform
      go_enter Tryd.func30, Tryd.ntmps30
      go_wp2_with fail
      all_goals go_ret
      all_goals exact ⟨rfl, (unhide HH _ _ _ _ _).1, (unhide HH _ _ _ _ _).2⟩
    · have hne : ((ns.length : Int) == (ks.length : Int)) = false := by
        rw [beq_eq_false_iff_ne]
        rcases hform with h | h | h
        · cases h
        · omega
        · omega
      have hd6 : d.size = 0 := by omega
      clear hform hd5
      by_cases hn3 : 0 < ns.length
      case neg =>
        obtain rfl : ns = [] := List.eq_nil_of_length_eq_zero (by omega)
        have hk3 : 0 < ks.length := by
          rw [beq_eq_false_iff_ne] at hne
          by_cases h : ks.length = 0
          · rw [h] at hne; exact absurd rfl hne
          · omega
        have hne' : ((0 : Int) == (ks.length : Int)) = false := hne
        clear hne
        go_enter Tryd.func30, Tryd.ntmps30
        go_wp2_with fail
        all_goals go_ret
        all_goals exact ⟨rfl, (unhide HH _ _ _ _ _).1, (unhide HH _ _ _ _ _).2⟩
      go_enter Tryd.func30, Tryd.ntmps30
      go_wp2_with fail
      all_goals go_ret
      all_goals exact ⟨rfl, (unhide HH _ _ _ _ _).1, (unhide HH _ _ _ _ _).2⟩
  obtain ⟨rfl, hd6, hlen⟩ : x = false ∧ d.size = 0 ∧ ns.length = ks.length := by
    refine ⟨?_, ?_, ?_⟩
    · cases x
      · rfl
      · exact absurd (.inl rfl) hform
    · by_cases h : d.size = 0
      · exact h
      · exact absurd (.inr (.inl (by omega))) hform
    · by_cases h : ns.length = ks.length
      · exact h
      · exact absurd (.inr (.inr h)) hform
  have hn3 : ns.length = 0 := by
    rcases hodd with h | h
    · exact absurd h hform
    · exact h
  clear hform hodd
  have HY : Hid (okNames ns → chks ks (deep + 1) (n + 1) = (E, M)) := fun hok => by
    rw [← unhide HEM, chk, if_neg hbig, hd6, ← hlen, if_pos (loc_dir_ok hok)]
  have HX : Hid (¬ okNames ns → (9, n + 1) = (E, M)) := fun hok => by
    rw [← unhide HEM, chk, if_neg hbig, hd6, ← hlen, loc_dir_no hok, if_neg (by omega)]
  clear HEM
  have HSm := hide hSm
  have HR := hide (And.intro hn (And.intro hk (And.intro hl hK)))
  clear hd hn hk hK hl hSm hW hbig hn0 hd0 hkl hz
  rw [hd6] at H0
  · obtain rfl : ns = [] := List.eq_nil_of_length_eq_zero hn3
    obtain rfl : ks = [] := List.eq_nil_of_length_eq_zero (by rw [← hlen]; rfl)
    have h := unhide HY (okNames_nil rfl)
    rw [chks] at h
    obtain ⟨rfl, rfl⟩ := Prod.mk.inj h
    rw [unhide HZ]
    clear h HX HY HZ HNb HD0 HSm HR hlen hn3 hkl1
    go_enter Tryd.func30, Tryd.ntmps30
    go_wp2_with fail
    go_loopw [8] (fun vi wr => vi = .int .i64 0 ∧ Sole c w wr ∧ Ctr wr c (.int .i64 (z + 1)) ∧ Bx wr w.heap.size (.int .i64 2) (.bool false) (.slice ad 0 cd) (.slice an 0 cn) (.slice ak 0 ck)) (fun _ _ => 0)
    case atStart => exact ⟨rfl, (unhide H0).1, (unhide H0).2.2, (unhide H0).2.1⟩
    case round =>
      obtain ⟨rfl, hS, hC, hB⟩ := hrel
      obtain ⟨c0, c1, c2, c3, c4⟩ := hB.cells
      go_wp2_with fail
      clear c0 c1 c2 c3 c4
      go_loopw [9] (fun vi wr => vi = .int .i64 0 ∧ Sole c w wr ∧ Ctr wr c (.int .i64 (z + 1)) ∧ Bx wr w.heap.size (.int .i64 2) (.bool false) (.slice ad 0 cd) (.slice an 0 cn) (.slice ak 0 ck)) (fun _ _ => 0)
      case atStart => exact ⟨rfl, hS, hC, hB⟩
      case round =>
        clear hS hC hB
        obtain ⟨rfl, hS, hC, hB⟩ := hrel
        obtain ⟨c0, c1, c2, c3, c4⟩ := hB.cells
        go_wp2_with fail
        go_ret
        exact ⟨rfl, hS, hC⟩
end Go.Proofs.YthfjofmfiklegaaDoor
/- Check, in the document's own answer: a directory and all below. -/
namespace Go.Proofs.YthfjofmfiklegaaDoor
open Go.RowKit
set_option maxRecDepth 20000 in
set_option maxHeartbeats 1000000 in
theorem chkR_any (T : Tr) : ∀ (lo hi : Nat) (cs : List Value) (w : World) (c deep n : Nat), Lies lo hi w T cs → wt T ≤ 100000 → Ctr w c (.int .i64 (n : Int)) → hi ≤ c → n ≤ 65536 → deep ≤ 65 →
    Calls Tryd.prog 30 #[.agg cs.toArray, .int .i64 (deep : Int), .pointer (some ⟨c, 0, none⟩)] w fun e w' => e = .returned (.int .i64 (((chk T deep n).1 : Nat) : Int)) ∧ Sole c w w' ∧ Ctr w' c (.int .i64 (((chk T deep n).2 : Nat) : Int)) := by
  induction T using Tr.ind with
  | h k x d ns ks ih =>
  intro lo hi cs w c deep n hL hW hC hhi hn0 hd0
  by_cases hflat : k ≠ 2 ∨ 65536 < n + 1 ∨ 64 < deep
  · exact chkR_flat k x d ns ks lo hi cs w c deep n hL hW hC hhi hn0 hd0 hflat
  obtain rfl : k = 2 := by
    by_cases h : k = 2
    · exact h
    · exact absurd (.inl h) hflat
  have hbig : ¬ (65536 < n + 1 ∨ 64 < deep) := fun h => hflat (.inr h)
  clear hflat
  by_cases hodd : (x = true ∨ 0 < d.size ∨ ns.length ≠ ks.length) ∨ ns.length = 0
  · exact chkR_odd x d ns ks lo hi cs w c deep n hL hW hC hhi hn0 hd0 hbig hodd
  have hform : ¬ (x = true ∨ 0 < d.size ∨ ns.length ≠ ks.length) := fun h => hodd (.inl h)
  have hn3 : 0 < ns.length := by
    have : ¬ ns.length = 0 := fun h => hodd (.inr h)
    omega
  clear hodd
  have hSm := small_of hW
  cases hL with
  | mk _ _ _ _ _ vd vn vk Ks hl hd hn hk hK =>
  obtain ⟨ad, cd, rfl, hcd⟩ := hd.slice
  obtain ⟨an, cn, rfl, hcn⟩ := hn.slice
  obtain ⟨ak, ck, rfl, hck⟩ := hk.slice
  have hcl := hC.lt
  obtain ⟨z, hz⟩ : ∃ z : Int, z = (n : Int) := ⟨_, rfl⟩
  rw [← hz] at hC
  have HC := hide hC
  have hkl := hSm.k
  obtain ⟨hcc, hcf⟩ := hC
  have hS0 : Sole c w ((w.setCell ⟨c, 0, none⟩ (.int .i64 (z + 1))).alloc (.cells #[.int .i64 2, .bool x, .slice ad d.size cd, .slice an ns.length cn, .slice ak ks.length ck] 26)) := (((Sole.refl c w).setCell 0 _).alloc _)
  have hB0 : Bx ((w.setCell ⟨c, 0, none⟩ (.int .i64 (z + 1))).alloc (.cells #[.int .i64 2, .bool x, .slice ad d.size cd, .slice an ns.length cn, .slice ak ks.length ck] 26)) w.heap.size (.int .i64 2) (.bool x) (.slice ad d.size cd) (.slice an ns.length cn) (.slice ak ks.length ck) := bx_new' _ _ _ _ _ _ _ _
  have hC0 : Ctr ((w.setCell ⟨c, 0, none⟩ (.int .i64 (z + 1))).alloc (.cells #[.int .i64 2, .bool x, .slice ad d.size cd, .slice an ns.length cn, .slice ak ks.length ck] 26)) c (.int .i64 (z + 1)) :=
    ((unhide HC).set (.int .i64 (z + 1))).below ((Below.refl w.heap.size _).alloc (by simp) (.cells #[.int .i64 2, .bool x, .slice ad d.size cd, .slice an ns.length cn, .slice ak ks.length ck] 26)) hcl
  have H0 := hide (And.intro hS0 (And.intro hB0 hC0))
  have HH : Hid (∀ v0 v1 v2 v3 v4, Sole c w ((w.setCell ⟨c, 0, none⟩ (.int .i64 (z + 1))).alloc (.cells #[v0, v1, v2, v3, v4] 26)) ∧ Ctr ((w.setCell ⟨c, 0, none⟩ (.int .i64 (z + 1))).alloc (.cells #[v0, v1, v2, v3, v4] 26)) c (.int .i64 (z + 1))) := fun v0 v1 v2 v3 v4 =>
    ⟨(((Sole.refl c w).setCell 0 _).alloc _), ((unhide HC).set (.int .i64 (z + 1))).below ((Below.refl w.heap.size _).alloc (by simp) (.cells #[v0, v1, v2, v3, v4] 26)) hcl⟩
  clear hS0 hB0 hC0
  obtain ⟨E, M, hEM⟩ : ∃ E M, chk (.mk 2 x d ns ks) deep n = (E, M) := ⟨_, _, rfl⟩
  rw [hEM]
  simp only
  have HEM := hide hEM
  clear hEM
  have hn1 : z ≤ 1000000 := by omega
  have hn2 : 0 ≤ z := by omega
  have HZ : Hid (((n + 1 : Nat) : Int) = z + 1) := by show ((n + 1 : Nat) : Int) = z + 1; omega
  have hd1 : (deep : Int) ≤ 1000 := by omega
  have hkl1 : (ks.length : Int) ≤ 1000000 := by omega
  have hbig1 : ¬ (65536 : Int) < z + 1 := by omega
  have hbig2 : ¬ (64 : Int) < (deep : Int) := by omega
  have HNb : Hid (n + 1 ≤ 65536) := by show n + 1 ≤ 65536; omega
  have HD0 := hide (show deep ≤ 64 by omega)
  obtain ⟨rfl, hd6, hlen⟩ : x = false ∧ d.size = 0 ∧ ns.length = ks.length := by
    refine ⟨?_, ?_, ?_⟩
    · cases x
      · rfl
      · exact absurd (.inl rfl) hform
    · by_cases h : d.size = 0
      · exact h
      · exact absurd (.inr (.inl (by omega))) hform
    · by_cases h : ns.length = ks.length
      · exact h
      · exact absurd (.inr (.inr h)) hform
  clear hform
  have HY : Hid (okNames ns → chks ks (deep + 1) (n + 1) = (E, M)) := fun hok => by
    rw [← unhide HEM, chk, if_neg hbig, hd6, ← hlen, if_pos (loc_dir_ok hok)]
  have HX : Hid (¬ okNames ns → (9, n + 1) = (E, M)) := fun hok => by
    rw [← unhide HEM, chk, if_neg hbig, hd6, ← hlen, loc_dir_no hok, if_neg (by omega)]
  clear HEM
  have HSm := hide hSm
  have HR := hide (And.intro hn (And.intro hk (And.intro hl hK)))
  clear hd hn hk hK hl hSm hW hbig hn0 hd0 hkl hz
  rw [hd6] at H0
  obtain ⟨L, hLn⟩ : ∃ L, ns.length = L := ⟨_, rfl⟩
  have hLk : ks.length = L := by rw [← hlen]; exact hLn
  clear hlen
  rw [hLn] at hn3 hcn HR H0
  rw [hLk] at hkl1 hck HR H0
  have HL := hide (And.intro hLn hLk)
  rw [hd6, hLn, hLk]
  clear hLn hLk hd6 hcd
  go_enter Tryd.func30, Tryd.ntmps30
  go_wp2_with fail
  obtain ⟨hS0, hB0, hC0⟩ := unhide H0
  clear H0 HH hcc hcf HC
  generalize (w.setCell ⟨c, 0, none⟩ (.int .i64 (z + 1))).alloc (.cells #[.int .i64 2, .bool false, .slice ad 0 cd, .slice an L cn, .slice ak L ck] 26) = w1 at *
  rw [← unhide HZ] at hC0
  go_loopw [8] (fun vi wr => ∃ i : Nat, i ≤ L ∧ vi = .int .i64 (i : Int) ∧ Sole c w wr ∧ Ctr wr c (.int .i64 ((n + 1 : Nat) : Int)) ∧ Bx wr w.heap.size (.int .i64 2) (.bool false) (.slice ad 0 cd) (.slice an L cn) (.slice ak L ck) ∧ Hid (∀ j, j < i → okName ns j = true)) (fun vi _ => L - (intOf vi).toNat)
  case atStart => exact ⟨0, by omega, rfl, hS0, hC0, hB0, fun j h => by omega⟩
  case round =>
    clear hS0 hC0 hB0
    obtain ⟨i, hin, rfl, hS, hC, hB, hall⟩ := hrel
    obtain ⟨c0, c1, c2, c3, c4⟩ := hB.cells
    by_cases hltL : i < L
    · have hlt : i < ns.length := by rw [(unhide HL).1]; exact hltL
      obtain ⟨g, o, rfl, hg1, hg2, hcell⟩ := (unhide HR).1.at hn3
      have hbel := hS.below (base := hi) hhi (by omega)
      have hci : wr.cell? ⟨g, o + i, none⟩ = some (.string ns[i]) := by rw [hbel.cell (p := ⟨g, o + i, none⟩) hg2]; exact hcell i _ (by simp [List.getElem?_eq_getElem hlt])
      have hsi := (unhide HSm).s ns[i] (List.getElem_mem hlt)
      have HEn := hide (fun w => entR_any ns[i] w (by omega))
      have HF := hide (fun (h : ¬ okNames ns) => unhide HX h)
      have HW := hide (And.intro hS (And.intro hC hB))
      clear hS hC hB
      cases i with
      | zero =>
        have HO := hide (okName_first hlt)
        have HLT := hide hlt
        simp only [Nat.add_zero] at hci
        clear hcell
        generalize ns[0] = s at *
        clear hlt
        cases hent : entB s
        case false =>
          have h9 := unhide HF (fun h => by have := h 0 (unhide HLT); rw [unhide HO, hent] at this; simp at this)
          obtain ⟨rfl, rfl⟩ := Prod.mk.inj h9
          rw [hent] at HEn
          clear h9 HF HX HY HO HLT HSm HL ih hsi hbel hall
          go_wp2_with fail
          go_quiet ((go_at_call 43; exact Calls.quiet_of_same (unhide HEn _)))
          go_wp2_with fail
          go_ret
          exact ⟨rfl, (unhide HW).1.drewN _, (unhide HW).2.1.drewN _⟩
        case true =>
          rw [hent] at HEn
          clear HF HX HY HSm ih hsi hbel
          go_wp2_with fail
          go_quiet ((go_at_call 43; exact Calls.quiet_of_same (unhide HEn _)))
          go_wp2_with fail
          go_roundw
          case rel =>
            refine ⟨1, by omega, by go_num, (unhide HW).1.drewN _, (unhide HW).2.1.drewN _, (unhide HW).2.2.drewN _, fun j hj => ?_⟩
            obtain rfl : j = 0 := by omega
            rw [unhide HO, hent]
          case measure => simp [intOf]; omega
      | succ i =>
        have hcj : wr.cell? ⟨g, o + i, none⟩ = some (.string (ns.getD i ⟨#[]⟩)) := by
          rw [hbel.cell (p := ⟨g, o + i, none⟩) hg2]
          exact hcell i _ (by simp [List.getElem?_eq_getElem (show i < ns.length by omega), List.getD_eq_getElem?_getD])
        have HO := hide (okName_next hlt)
        have HLT := hide hlt
        clear hcell
        generalize ns.getD i ⟨#[]⟩ = q at *
        generalize ns[i + 1] = s at *
        clear hlt
        cases hent : entB s
        case false =>
          have h9 := unhide HF (fun h => by have := h (i + 1) (unhide HLT); rw [unhide HO, hent] at this; simp at this)
          obtain ⟨rfl, rfl⟩ := Prod.mk.inj h9
          rw [hent] at HEn
          clear h9 HF HX HY HO HLT HSm HL ih hsi hbel hall
          go_wp2_with fail
          go_quiet ((go_at_call 43; exact Calls.quiet_of_same (unhide HEn _)))
          go_wp2_with fail
          go_ret
          exact ⟨rfl, (unhide HW).1.drewN _, (unhide HW).2.1.drewN _⟩
        case true =>
          rw [hent] at HEn
          clear HSm ih hsi hbel
          go_wp2_with fail
          go_quiet ((go_at_call 43; exact Calls.quiet_of_same (unhide HEn _)))
          go_wp2_with fail
          · rename_i hle
            have hno : ¬ okNames ns := fun h => by have := h (i + 1) (unhide HLT); rw [unhide HO, hent] at this; exact less_yes hle (by simpa using this)
            have h9 := unhide HF hno
            obtain ⟨rfl, rfl⟩ := Prod.mk.inj h9
            go_ret
            exact ⟨rfl, (unhide HW).1.drewN _, (unhide HW).2.1.drewN _⟩
          · rename_i hle
            have HYe : Hid (okName ns (i + 1) = true) := by show okName ns (i + 1) = true; rw [unhide HO, hent]; simpa using less_no hle
            clear HF HX HY
            go_roundw
            case rel =>
              refine ⟨i + 1 + 1, by omega, by go_num, (unhide HW).1.drewN _, (unhide HW).2.1.drewN _, (unhide HW).2.2.drewN _, fun j hj => ?_⟩
              by_cases e : j = i + 1
              · subst e; exact unhide HYe
              · exact unhide hall j (by omega)
            case measure => simp [intOf]; omega
    · have HE' : Hid (chks ks (deep + 1) (n + 1) = (E, M)) := unhide HY (fun j hj => unhide hall j (by have := (unhide HL).1; omega))
      clear HY HX hall
      go_wp2_with fail
      clear c0 c1 c2 c3 c4
      have HT := hide (unhide HSm).t
      have HW := hide (And.intro hS (And.intro hC hB))
      clear hS hC hB HSm
      generalize wr = w2 at *
      go_loopw [9] (fun vi wr => ∃ i m : Nat, i ≤ L ∧ vi = .int .i64 (i : Int) ∧ Sole c w wr ∧ Bx wr w.heap.size (.int .i64 2) (.bool false) (.slice ad 0 cd) (.slice an L cn) (.slice ak L ck) ∧ Ctr wr c (.int .i64 (m : Int)) ∧ Hid (m ≤ 65536) ∧ Hid (chks (ks.drop i) (deep + 1) m = (E, M))) (fun vi _ => L - (intOf vi).toNat)
      case atStart => exact ⟨0, n + 1, by omega, rfl, (unhide HW).1, (unhide HW).2.2, (unhide HW).2.1, HNb, HE'⟩
      case round =>
        obtain ⟨i, m, hik, rfl, hS, hB, hC, hm, hq⟩ := hrel
        obtain ⟨c0, c1, c2, c3, c4⟩ := hB.cells
        by_cases hlt : i < L
        · have hltk : i < ks.length := by rw [(unhide HL).2]; exact hlt
          obtain ⟨g, o, rfl, hg1, hg2, hcell⟩ := (unhide HR).2.1.at hn3
          obtain ⟨hl, hK⟩ := (unhide HR).2.2
          have hbel := hS.below (base := hi) hhi (by omega)
          have hcell' : ∀ j u, Ks.flatten[j]? = some u → wr.cell? ⟨g, o + j, none⟩ = some u := fun j u hj => by rw [hbel.cell (p := ⟨g, o + j, none⟩) hg2]; exact hcell j u hj
          obtain ⟨k', x', a1, n1, c1', a2, n2, c2', a3, n3, c3', hLi, z0, z1, z2, z3, z4⟩ := kid_sl (hl.trans (unhide HL).2.symm) hcell' (fun i t c h1 h2 => (hK i t c h1 h2).kept hbel (Nat.le_refl _)) i hltk
          have hzr := hS.size
          have HI := hide (ih ks[i] (List.getElem_mem hltk) lo hi _ wr c (deep + 1) m hLi (unhide HT _ (List.getElem_mem hltk)) hC hhi (unhide hm) (by have := unhide HD0; omega))
          have HQ := hide (chks_step ks i (deep + 1) m hltk)
          have HM := hide (chk_ok ks[i] (deep + 1) m)
          clear hcell hcell' hl hK hLi hC hbel
          generalize ks[i] = t at *
          clear hltk
          go_wp2_with fail
          refine (unhide HI).mono ?_
          rintro e w3 ⟨rfl, hS3, hC3⟩
          have hS4 : Sole c w w3 := hS.trans hS3
          have hB4 := hB.sole hS3 (by omega)
          clear hS3 HI z0 z1 z2 z3 z4
          by_cases he : (chk t (deep + 1) m).1 = 0
          · have hq' : Hid (chks (ks.drop (i + 1)) (deep + 1) (chk t (deep + 1) m).2 = (E, M)) := by
              have h := unhide HQ
              rw [if_pos he, unhide hq] at h
              exact h.symm
            have hm' : Hid ((chk t (deep + 1) m).2 ≤ 65536) := unhide HM he
            rw [he]
            clear HQ HM he hq hm
            generalize (chk t (deep + 1) m).2 = m' at *
            have HS4 := hide (And.intro hS4 (And.intro hB4 hC3))
            clear hC3 hS4 hB4
            go_wp2_with fail
            go_roundw
            case rel => exact ⟨i + 1, m', by omega, by go_num, (unhide HS4).1, (unhide HS4).2.1, (unhide HS4).2.2, hm', hq'⟩
            case measure => simp [intOf]; omega
          · have h := unhide HQ
            rw [if_neg he, unhide hq] at h
            have hne : ((((chk t (deep + 1) m).1 : Nat) : Int) == 0) = false := by rw [beq_eq_false_iff_ne]; omega
            rw [← h] at hC3 hne ⊢
            clear HQ HM he hq hm h
            go_wp2_with fail
            go_ret
            exact ⟨rfl, hS4, hC3⟩
        · obtain rfl : i = L := by omega
          have HF := unhide hq
          rw [← (unhide HL).2, chks_end] at HF
          obtain ⟨rfl, rfl⟩ := Prod.mk.inj HF
          clear HF hq HE'
          go_wp2_with fail
          go_ret
          exact ⟨rfl, hS, hC⟩
end Go.Proofs.YthfjofmfiklegaaDoor
/- Check, in the code and in the document's own answer: one and the same. -/
namespace Go.Proofs.YthfjofmfiklegaaDoor
open Go.RowKit
theorem Lies.form {lo hi : Nat} {w : World} {T : Tr} {cs : List Value} (h : Lies lo hi w T cs) : ∃ k x a1 n1 c1 a2 n2 c2 a3 n3 c3, cs = [.int .i64 k, .bool x, .slice a1 n1 c1, .slice a2 n2 c2, .slice a3 n3 c3] := by
  cases h with
  | mk k x d ns ks vd vn vk Ks hl hd hn hk hK =>
    obtain ⟨a1, c1, rfl, _⟩ := hd.slice
    obtain ⟨a2, c2, rfl, _⟩ := hn.slice
    obtain ⟨a3, c3, rfl, _⟩ := hk.slice
    exact ⟨k, x, a1, _, c1, a2, _, c2, a3, _, c3, rfl⟩
set_option maxRecDepth 20000 in
set_option maxHeartbeats 1000000 in
theorem check_any (T : Tr) (lo hi : Nat) (cs : List Value) (w : World) (hL : Lies lo hi w T cs) (hW : wt T ≤ 100000) (hhi : hi ≤ w.heap.size) :
    Calls Tryd.prog 11 #[.agg cs.toArray] w fun e w' => e = .returned (.int .i64 (((chk T 1 0).1 : Nat) : Int)) ∧ Below w.heap.size w w' := by
  obtain ⟨k, x, a1, n1, c1, a2, n2, c2, a3, n3, c3, rfl⟩ := hL.form
  have hb0 : Below w.heap.size w ((w.alloc (.cells #[.int .i64 k, .bool x, .slice a1 n1 c1, .slice a2 n2 c2, .slice a3 n3 c3] 26)).alloc (.cells #[.int .i64 0] 3)) := ((Below.refl _ _).alloc (Nat.le_refl _) _).alloc (by simp) _
  have hC0 : Ctr ((w.alloc (.cells #[.int .i64 k, .bool x, .slice a1 n1 c1, .slice a2 n2 c2, .slice a3 n3 c3] 26)).alloc (.cells #[.int .i64 0] 3)) (w.heap.size + 1) (.int .i64 ((0 : Nat) : Int)) := ⟨by simp [go_sem], by simp [go_sem]⟩
  have HI := hide (chkC_any T lo hi _ _ (w.heap.size + 1) 1 0 (hL.kept hb0 hhi) hW hC0 (by omega) (by omega) (by omega))
  clear hL hC0
  obtain ⟨E, M, hEM⟩ : ∃ E M, chk T 1 0 = (E, M) := ⟨_, _, rfl⟩
  rw [hEM] at HI ⊢
  clear hEM
  go_enter Tryd.func11, Tryd.ntmps11
  go_wp2_with fail
  refine (unhide HI).mono ?_
  rintro e w1 ⟨rfl, hS, _⟩
  have hbl : Below w.heap.size w w1 := hb0.trans (hS.below (by omega) (by simp; omega))
  go_wp2_with fail
  go_ret
  exact ⟨rfl, hbl⟩
set_option maxRecDepth 20000 in
set_option maxHeartbeats 1000000 in
theorem checkR_any (T : Tr) (lo hi : Nat) (cs : List Value) (w : World) (hL : Lies lo hi w T cs) (hW : wt T ≤ 100000) (hhi : hi ≤ w.heap.size) :
    Calls Tryd.prog 12 #[.agg cs.toArray] w fun e w' => e = .returned (.int .i64 (((chk T 1 0).1 : Nat) : Int)) ∧ Below w.heap.size w w' := by
  obtain ⟨k, x, a1, n1, c1, a2, n2, c2, a3, n3, c3, rfl⟩ := hL.form
  have hb0 : Below w.heap.size w ((w.alloc (.cells #[.int .i64 k, .bool x, .slice a1 n1 c1, .slice a2 n2 c2, .slice a3 n3 c3] 26)).alloc (.cells #[.int .i64 0] 3)) := ((Below.refl _ _).alloc (Nat.le_refl _) _).alloc (by simp) _
  have hC0 : Ctr ((w.alloc (.cells #[.int .i64 k, .bool x, .slice a1 n1 c1, .slice a2 n2 c2, .slice a3 n3 c3] 26)).alloc (.cells #[.int .i64 0] 3)) (w.heap.size + 1) (.int .i64 ((0 : Nat) : Int)) := ⟨by simp [go_sem], by simp [go_sem]⟩
  have HI := hide (chkR_any T lo hi _ _ (w.heap.size + 1) 1 0 (hL.kept hb0 hhi) hW hC0 (by omega) (by omega) (by omega))
  clear hL hC0
  obtain ⟨E, M, hEM⟩ : ∃ E M, chk T 1 0 = (E, M) := ⟨_, _, rfl⟩
  rw [hEM] at HI ⊢
  clear hEM
  go_enter Tryd.func12, Tryd.ntmps12
  go_wp2_with fail
  refine (unhide HI).mono ?_
  rintro e w1 ⟨rfl, hS, _⟩
  have hbl : Below w.heap.size w w1 := hb0.trans (hS.below (by omega) (by simp; omega))
  go_wp2_with fail
  go_ret
  exact ⟨rfl, hbl⟩
end Go.Proofs.YthfjofmfiklegaaDoor
/- Rows appended to rows of the call's own. -/
namespace Go.Proofs.YthfjofmfiklegaaDoor
open Go.RowKit
def app22 (ty : TypeId) (args : Array Value) : Sem Value := Builtin.append_ #[22, 22] ty args
@[go_sem ↓] theorem append_app22 (ty : TypeId) (args : Array Value) : Builtin.append_ #[22, 22] ty args = app22 ty args := rfl
def app23 (ty : TypeId) (args : Array Value) : Sem Value := Builtin.append_ #[23, 23] ty args
@[go_sem ↓] theorem append_app23 (ty : TypeId) (args : Array Value) : Builtin.append_ #[23, 23] ty args = app23 ty args := rfl
def app24 (ty : TypeId) (args : Array Value) : Sem Value := Builtin.append_ #[24, 24] ty args
@[go_sem ↓] theorem append_app24 (ty : TypeId) (args : Array Value) : Builtin.append_ #[24, 24] ty args = app24 ty args := rfl
theorem info_at (e : TypeId) (z : Value) (size bytes : Nat) (h : (Tryd.prog.info? e).map (fun i => (i.zero, i.size, i.bytes)) = some (some z, size, bytes)) : ∃ i, Tryd.prog.info? e = some i ∧ i.zero = some z ∧ i.size = size ∧ i.bytes = bytes := by
  cases hq : Tryd.prog.info? e with
  | none => simp [hq] at h
  | some i => simp [hq] at h; exact ⟨i, rfl, h.1, h.2.1, h.2.2⟩
theorem info5 : ∃ i, Tryd.prog.info? 5 = some i ∧ i.zero = some (.int .u8 0) ∧ i.size = 1 ∧ i.bytes = 1 := info_at _ _ _ _ (by kernel_rfl)
theorem info9 : ∃ i, Tryd.prog.info? 9 = some i ∧ i.zero = some (.string ⟨#[]⟩) ∧ i.size = 1 ∧ i.bytes = 16 := info_at _ _ _ _ (by kernel_rfl)
theorem info26 : ∃ i, Tryd.prog.info? 26 = some i ∧ i.zero = some (.agg #[.int .i64 0, .bool false, .slice none 0 0, .slice none 0 0, .slice none 0 0]) ∧ i.size = 5 ∧ i.bytes = 88 := info_at _ _ _ _ (by kernel_rfl)
/-- Whatever has turned besides, the call's own row stands. -/
theorem owns_same {w w' : World} {base base' : Nat} {e : TypeId} {size : Nat} {v : Value} {n : Nat} {xs : List Value} (h : w.ownsRow base e size v n xs) (hs : ∀ g, v.ownBlock = some g → w'.heap[g]? = w.heap[g]?) (hb : ∀ g, v.ownBlock = some g → base ≤ g → base' ≤ g) : w'.ownsRow base' e size v n xs := by
  refine ⟨h.1, ?_⟩
  rcases h.2 with h2 | ⟨g, cap, cur, rfl, hg, hh, r⟩
  · exact .inl h2
  · exact .inr ⟨g, cap, cur, rfl, hb g rfl hg, by rw [hs g rfl]; exact hh, r⟩
theorem addr_mid (g o j : Nat) : (⟨g, o, none⟩ : Addr).add j = ⟨g, o + j, none⟩ := by unfold Addr.add; split <;> simp_all
theorem Row.src {lo hi : Nat} {w : World} {a : Option Addr} {n c : Nat} {xs : List Value} (h : Row lo hi w (.slice a n c) n xs) (h0 : 0 < n) : ∃ b : Addr, a = some b ∧ ∀ j u, xs[j]? = some u → w.cell? (b.add j) = some u := by
  obtain ⟨g, o, rfl, _, _, hcell⟩ := h.at h0
  exact ⟨_, rfl, fun j u hj => by rw [addr_mid]; exact hcell j u hj⟩
/-- The one law of append onto a row of one's own: for every element type here. -/
theorem app_own {t e : TypeId} {i : TypeInfo} {z : Value} {size bytes : Nat} (ht : Tryd.prog.underlying t = some (.slice e)) (hi : Tryd.prog.info? e = some i) (hz : i.zero = some z) (hsize : i.size = size) (hby : i.bytes = bytes) (hzs : z.cells.size = size) (hsz : 0 < size)
    (w : World) (base lo hi' : Nat) (v : Value) (n : Nat) (xs : List Value) (a : Option Addr) (m c : Nat) (ys : List Value) (ty : TypeId) (ho : w.ownsRow base e size v n xs) (hr : Row lo hi' w (.slice a m c) m ys) (hl : ys.length = m * size) (h1 : ∀ u ∈ ys, u.oneCell' = true) (hmax : (n + m) * bytes ≤ 100000000000) (hbytes : 0 < bytes) (hbase : base ≤ w.heap.size) :
    ∃ v' w', (Builtin.append_ #[t, t] ty #[v, .slice a m c]).run Tryd.prog w = .ok v' w' ∧ w'.ownsRow base e size v' (n + m) (xs ++ ys) ∧ w.grownBy w' v.ownBlock ∧ (v'.ownBlock = v.ownBlock ∨ v'.ownBlock = some w.heap.size) := by
  have hnm : n + m ≤ 100000000000 := Nat.le_trans (Nat.le_mul_of_pos_right _ hbytes) hmax
  by_cases h0 : 0 < m
  · obtain ⟨b, rfl, hcell⟩ := hr.src h0
    obtain ⟨v', w', hr', h2, h3, -⟩ := run_append_own (P := Tryd.prog) w base t ty e i z size bytes ht hi hz hsize hby hzs hsz v n xs ho b m c ys hl hcell h1 (by simp only [maxLen]; omega) (by omega) hbase
    refine ⟨v', w', hr', h2, h3, ?_⟩
    subst hsize
    subst hby
    rcases ho.2 with ⟨rfl, rfl⟩ | ⟨g, cap, cur, rfl, hg, hh, hcap, hm, hcs, htk⟩
    · rw [run_append_nil (P := Tryd.prog) w t ty e i z ht hi hz b m c ys hl hcell h0 (by omega) (by rw [Nat.zero_add] at hmax; omega)] at hr'
      injection hr' with e1 e2
      subst e1
      exact .inr rfl
    · by_cases hroom : n + m ≤ cap
      · rw [run_append_room (P := Tryd.prog) w t ty e i ht hi g n cap cur hh b m c ys hl hcell h1 hroom (by rw [hl, hcs, ← Nat.add_mul]; exact Nat.mul_le_mul_right _ hroom)] at hr'
        injection hr' with e1 e2
        subst e1
        exact .inl rfl
      · have hold : ∀ j u, xs[j]? = some u → w.cell? ((⟨g, 0, none⟩ : Addr).add j) = some u := fun j u hj => by
          rw [addr_mid, Nat.zero_add]
          have e0 : w.cell? ⟨g, j, none⟩ = cur[j]? := by unfold World.cell?; simp [hh]
          rw [e0]
          rw [← htk] at hj
          have hj2 := (List.getElem?_eq_some_iff.1 hj).1
          rw [List.length_take] at hj2
          rw [List.getElem?_take_of_lt (by omega)] at hj
          rw [← hj]; simp
        have hfit : Builtin.nextslicecap (n + m) cap * i.bytes ≤ 281474976710656 := growslice_fits (by omega) (by omega)
        rw [run_append_grow (P := Tryd.prog) w t ty e i z ht hi hz ⟨g, 0, none⟩ n cap xs ho.1 hold b m c ys hl hcell (by omega) (by omega) hfit] at hr'
        injection hr' with e1 e2
        subst e1
        exact .inr rfl
  · obtain rfl : m = 0 := by omega
    obtain rfl : ys = [] := List.eq_nil_of_length_eq_zero (by rw [hl]; omega)
    have hsrc : Src Tryd.prog i.size t (.slice a 0 c) 0 [] w := by
      cases a with
      | none => exact Src.ofNil w ht c
      | some x => exact Src.ofSlice w ht x 0 c [] (by simp) (fun j u hj => by simp at hj) (fun u hu => by simp at hu)
    obtain ⟨b, n', cp, rfl, hle, hn⟩ : ∃ b n' cp, v = .slice b n' cp ∧ n' ≤ cp ∧ n' = n := by
      rcases ho.2 with ⟨rfl, h⟩ | ⟨g, cap, cur, rfl, _, _, h, _⟩
      · exact ⟨none, 0, 0, rfl, Nat.le_refl _, h.symm⟩
      · exact ⟨_, _, _, rfl, h, rfl⟩
    refine ⟨_, w, run_append_nothing w t t ty e i ht hi b n' cp hle _ hsrc, ?_, ?_, .inl rfl⟩
    · rw [List.append_nil]; exact ho
    · exact ⟨rfl, rfl, rfl, Nat.le_refl _, fun _ _ _ => rfl⟩
theorem app22_own (w : World) (base lo hi : Nat) (v : Value) (n : Nat) (xs : List Value) (a : Option Addr) (m c : Nat) (ys : List Value) (ho : w.ownsRow base 5 1 v n xs) (hr : Row lo hi w (.slice a m c) m ys) (hl : ys.length = m) (h1 : ∀ u ∈ ys, u.oneCell' = true) (hmax : n + m ≤ 100000000) (hbase : base ≤ w.heap.size) :
    ∃ v' w', (∀ ty, (app22 ty #[v, .slice a m c]).run Tryd.prog w = .ok v' w') ∧ w'.ownsRow base 5 1 v' (n + m) (xs ++ ys) ∧ w.grownBy w' v.ownBlock ∧ (v'.ownBlock = v.ownBlock ∨ v'.ownBlock = some w.heap.size) := by
  obtain ⟨i, hi', hz, hsz, hby⟩ := info5
  obtain ⟨v', w', hr', h2, h3, h4⟩ := app_own Tryd.underlying22 hi' hz hsz hby rfl (by omega) w base lo hi v n xs a m c ys 22 ho hr (by omega) h1 (by omega) (by omega) hbase
  exact ⟨v', w', fun ty => hr', h2, h3, h4⟩
theorem app23_own (w : World) (base lo hi : Nat) (v : Value) (n : Nat) (xs : List Value) (a : Option Addr) (m c : Nat) (ys : List Value) (ho : w.ownsRow base 9 1 v n xs) (hr : Row lo hi w (.slice a m c) m ys) (hl : ys.length = m) (h1 : ∀ u ∈ ys, u.oneCell' = true) (hmax : n + m ≤ 100000000) (hbase : base ≤ w.heap.size) :
    ∃ v' w', (∀ ty, (app23 ty #[v, .slice a m c]).run Tryd.prog w = .ok v' w') ∧ w'.ownsRow base 9 1 v' (n + m) (xs ++ ys) ∧ w.grownBy w' v.ownBlock ∧ (v'.ownBlock = v.ownBlock ∨ v'.ownBlock = some w.heap.size) := by
  obtain ⟨i, hi', hz, hsz, hby⟩ := info9
  obtain ⟨v', w', hr', h2, h3, h4⟩ := app_own Tryd.underlying23 hi' hz hsz hby rfl (by omega) w base lo hi v n xs a m c ys 23 ho hr (by omega) h1 (by omega) (by omega) hbase
  exact ⟨v', w', fun ty => hr', h2, h3, h4⟩
theorem app24_own (w : World) (base lo hi : Nat) (v : Value) (n : Nat) (xs : List Value) (a : Option Addr) (m c : Nat) (ys : List Value) (ho : w.ownsRow base 26 5 v n xs) (hr : Row lo hi w (.slice a m c) m ys) (hl : ys.length = m * 5) (h1 : ∀ u ∈ ys, u.oneCell' = true) (hmax : n + m ≤ 100000000) (hbase : base ≤ w.heap.size) :
    ∃ v' w', (∀ ty, (app24 ty #[v, .slice a m c]).run Tryd.prog w = .ok v' w') ∧ w'.ownsRow base 26 5 v' (n + m) (xs ++ ys) ∧ w.grownBy w' v.ownBlock ∧ (v'.ownBlock = v.ownBlock ∨ v'.ownBlock = some w.heap.size) := by
  obtain ⟨i, hi', hz, hsz, hby⟩ := info26
  obtain ⟨v', w', hr', h2, h3, h4⟩ := app_own Tryd.underlying24 hi' hz hsz hby rfl (by omega) w base lo hi v n xs a m c ys 24 ho hr hl h1 (by omega) (by omega) hbase
  exact ⟨v', w', fun ty => hr', h2, h3, h4⟩
end Go.Proofs.YthfjofmfiklegaaDoor
/- What stands where it stood while other blocks turn. -/
namespace Go.Proofs.YthfjofmfiklegaaDoor
open Go.RowKit
theorem Row.same {lo hi : Nat} {w w' : World} {v : Value} {n : Nat} {xs : List Value} (h : Row lo hi w v n xs) (hs : ∀ k, lo ≤ k → k < hi → w'.heap[k]? = w.heap[k]?) : Row lo hi w' v n xs := by
  obtain ⟨a, c, e, hc, hx⟩ := h
  refine ⟨a, c, e, hc, fun h0 => ?_⟩
  obtain ⟨g, o, ea, hg1, hg2, hcell⟩ := hx h0
  exact ⟨g, o, ea, hg1, hg2, fun j u hj => by rw [World.cell?_of_block (w := w) (a := ⟨g, o + j, none⟩) (hs g hg1 hg2)]; exact hcell j u hj⟩
theorem Lies.same {lo hi : Nat} {w w' : World} {T : Tr} {cs : List Value} (h : Lies lo hi w T cs) (hs : ∀ k, lo ≤ k → k < hi → w'.heap[k]? = w.heap[k]?) : Lies lo hi w' T cs := by
  induction h with
  | mk k x d ns ks vd vn vk Ks hl hd hn hk hK ih => exact .mk k x d ns ks vd vn vk Ks hl (hd.same hs) (hn.same hs) (hk.same hs) ih
theorem cell_of_row (w : World) (g j : Nat) (c : Array Value) (t : TypeId) (f : Nat × Nat) (h : w.heap[g]? = some (.cells c t f)) : w.cell? ⟨g, j, none⟩ = c[j]? := by
  unfold World.cell?; simp [h]
theorem owns_row {w : World} {base lo hi : Nat} {e : TypeId} {size : Nat} {v : Value} {n : Nat} {xs : List Value} (h : w.ownsRow base e size v n xs) (hb : ∀ g, v.ownBlock = some g → lo ≤ g ∧ g < hi) : Row lo hi w v n xs := by
  rcases h.2 with ⟨rfl, rfl⟩ | ⟨g, cap, cur, rfl, hg, hh, hcap, hm, hsz, ht⟩
  · exact ⟨none, 0, rfl, Nat.le_refl _, fun h => by omega⟩
  · refine ⟨_, cap, rfl, hcap, fun _ => ⟨g, 0, rfl, (hb g rfl).1, (hb g rfl).2, fun j u hj => ?_⟩⟩
    rw [cell_of_row w g (0 + j) cur e _ hh, Nat.zero_add]
    rw [← ht] at hj
    have hj2 := (List.getElem?_eq_some_iff.1 hj).1
    rw [List.length_take] at hj2
    rw [List.getElem?_take_of_lt (by omega)] at hj
    rw [← hj]; simp
theorem owns_lt {w : World} {base : Nat} {e : TypeId} {size : Nat} {v : Value} {n : Nat} {xs : List Value} (h : w.ownsRow base e size v n xs) : ∀ g, v.ownBlock = some g → base ≤ g ∧ g < w.heap.size := by
  intro g hg
  rcases h.2 with ⟨rfl, rfl⟩ | ⟨g', cap, cur, rfl, hg', hh, _⟩
  · simp [Value.ownBlock] at hg
  · simp [Value.ownBlock] at hg; subst hg; exact ⟨hg', (Array.getElem?_eq_some_iff.1 hh).1⟩
theorem owns_slice {w : World} {base : Nat} {e : TypeId} {size : Nat} {v : Value} {n : Nat} {xs : List Value} (h : w.ownsRow base e size v n xs) : ∃ a c, v = .slice a n c ∧ n ≤ c := by
  rcases h.2 with ⟨rfl, rfl⟩ | ⟨g', cap, cur, rfl, hg', hh, hc, _⟩
  · exact ⟨none, 0, rfl, Nat.le_refl _⟩
  · exact ⟨_, _, rfl, hc⟩
theorem Bx.fr {w : World} {b : Nat} {v0 v1 v2 v3 v4 : Value} (h : Bx w b v0 v1 v2 v3 v4) (o : Nat) : w.frozen? ⟨b, o, none⟩ = false := by
  unfold World.frozen?; rw [show w.heap[b]? = _ from h]; simp
theorem Bx.set2 {w : World} {b : Nat} {v0 v1 v2 v3 v4 : Value} (h : Bx w b v0 v1 v2 v3 v4) (v : Value) : Bx (w.setCell ⟨b, 2, none⟩ v) b v0 v1 v v3 v4 := by
  unfold Bx at *; simp [World.setCell, Array.getElem?_modify, h]
theorem Bx.set3 {w : World} {b : Nat} {v0 v1 v2 v3 v4 : Value} (h : Bx w b v0 v1 v2 v3 v4) (v : Value) : Bx (w.setCell ⟨b, 3, none⟩ v) b v0 v1 v2 v v4 := by
  unfold Bx at *; simp [World.setCell, Array.getElem?_modify, h]
theorem Bx.set4 {w : World} {b : Nat} {v0 v1 v2 v3 v4 : Value} (h : Bx w b v0 v1 v2 v3 v4) (v : Value) : Bx (w.setCell ⟨b, 4, none⟩ v) b v0 v1 v2 v3 v := by
  unfold Bx at *; simp [World.setCell, Array.getElem?_modify, h]
theorem set_other (w : World) (b o k : Nat) (v : Value) (h : k ≠ b) : (w.setCell ⟨b, o, none⟩ v).heap[k]? = w.heap[k]? := Below.heap_setCell _ _ _ _ h
end Go.Proofs.YthfjofmfiklegaaDoor
/- Rows of the call's own, made one behind the other: bytes, names, kids. -/
namespace Go.Proofs.YthfjofmfiklegaaDoor
open Go.RowKit
theorem owns_new (w : World) (e : TypeId) (size : Nat) : (w.alloc (.cells #[] e)).ownsRow w.heap.size e size (.slice (some ⟨w.heap.size, 0, none⟩) 0 0) 0 [] :=
  ⟨by simp, .inr ⟨w.heap.size, 0, #[], rfl, Nat.le_refl _, by show (w.heap.push _)[w.heap.size]? = _; rw [Array.getElem?_push, if_pos rfl], Nat.le_refl _, Nat.zero_le _, by simp, by simp⟩⟩
theorem one_bytes (d : ByteArray) : ∀ u ∈ byteVals d, u.oneCell' = true := fun u hu => by obtain ⟨b, -, rfl⟩ := List.mem_map.1 hu; rfl
theorem one_strs (ns : List ByteArray) : ∀ u ∈ ns.map Value.string, u.oneCell' = true := fun u hu => by obtain ⟨b, -, rfl⟩ := List.mem_map.1 hu; rfl
/-- What is appended to an empty literal is a row of its own. -/
theorem fresh22 (w : World) (lo hi : Nat) (a : Option Addr) (m c : Nat) (ys : List Value) (hr : Row lo hi w (.slice a m c) m ys) (hl : ys.length = m) (h1 : ∀ u ∈ ys, u.oneCell' = true) (hmax : m ≤ 100000000) (hhi : hi ≤ w.heap.size) :
    ∃ a1 c1 w1, (∀ ty, (app22 ty #[.slice (some ⟨w.heap.size, 0, none⟩) 0 0, .slice a m c]).run Tryd.prog (w.alloc (.cells #[] 5)) = .ok (.slice a1 m c1) w1) ∧ Below w.heap.size w w1 ∧ Row w.heap.size w1.heap.size w1 (.slice a1 m c1) m ys := by
  have hb : Below w.heap.size w (w.alloc (.cells #[] 5)) := (Below.refl _ _).alloc (Nat.le_refl _) _
  obtain ⟨v1, w1, happ, ho, hg, _⟩ := app22_own _ _ lo hi _ 0 [] a m c ys (owns_new w 5 1) (hr.below hb hhi) hl h1 (by omega) (by simp)
  rw [Nat.zero_add, List.nil_append] at ho
  obtain ⟨a1, c1, rfl, _⟩ := owns_slice ho
  exact ⟨a1, c1, w1, happ, hb.grown hg (by simp) (fun k hk => by simp [Value.ownBlock] at hk; omega), owns_row ho (owns_lt ho)⟩
theorem fresh23 (w : World) (lo hi : Nat) (a : Option Addr) (m c : Nat) (ys : List Value) (hr : Row lo hi w (.slice a m c) m ys) (hl : ys.length = m) (h1 : ∀ u ∈ ys, u.oneCell' = true) (hmax : m ≤ 100000000) (hhi : hi ≤ w.heap.size) :
    ∃ a1 c1 w1, (∀ ty, (app23 ty #[.slice (some ⟨w.heap.size, 0, none⟩) 0 0, .slice a m c]).run Tryd.prog (w.alloc (.cells #[] 9)) = .ok (.slice a1 m c1) w1) ∧ Below w.heap.size w w1 ∧ Row w.heap.size w1.heap.size w1 (.slice a1 m c1) m ys := by
  have hb : Below w.heap.size w (w.alloc (.cells #[] 9)) := (Below.refl _ _).alloc (Nat.le_refl _) _
  obtain ⟨v1, w1, happ, ho, hg, _⟩ := app23_own _ _ lo hi _ 0 [] a m c ys (owns_new w 9 1) (hr.below hb hhi) hl h1 (by omega) (by simp)
  rw [Nat.zero_add, List.nil_append] at ho
  obtain ⟨a1, c1, rfl, _⟩ := owns_slice ho
  exact ⟨a1, c1, w1, happ, hb.grown hg (by simp) (fun k hk => by simp [Value.ownBlock] at hk; omega), owns_row ho (owns_lt ho)⟩
/-- Kids of the call's own, so many yet, in a row of its own. -/
def KidsAt (Z : Nat) (w : World) (v : Value) (ks : List Tr) (i : Nat) : Prop :=
  ∃ Ks : List (List Value), Ks.length = i ∧ (∀ c ∈ Ks, c.length = 5) ∧ w.ownsRow Z 26 5 v i Ks.flatten ∧
    ∀ (j : Nat) (t : Tr) (c : List Value), ks[j]? = some t → Ks[j]? = some c → ∃ L H, Lies L H w t c ∧ Z ≤ L ∧ H ≤ w.heap.size ∧ ∀ g, v.ownBlock = some g → g < L ∨ H ≤ g
theorem kids_none (Z : Nat) (w : World) (ks : List Tr) : KidsAt Z w (.slice none 0 0) ks 0 :=
  ⟨[], rfl, fun c hc => by simp at hc, ⟨rfl, .inl ⟨rfl, rfl⟩⟩, fun j t c _ hc => by simp at hc⟩
theorem Lies.one {lo hi : Nat} {w : World} {T : Tr} {cs : List Value} (h : Lies lo hi w T cs) : ∀ u ∈ cs, u.oneCell' = true := by
  obtain ⟨k, x, a1, n1, c1, a2, n2, c2, a3, n3, c3, rfl⟩ := h.form
  intro u hu
  simp at hu
  rcases hu with rfl | rfl | rfl | rfl | rfl <;> rfl
theorem one_row (w : World) (cs : List Value) (e : TypeId) : Row w.heap.size (w.heap.size + 1) (w.alloc (.cells cs.toArray e)) (.slice (some ⟨w.heap.size, 0, none⟩) 1 1) 1 cs := by
  refine ⟨_, 1, rfl, Nat.le_refl _, fun _ => ⟨w.heap.size, 0, rfl, Nat.le_refl _, by omega, fun j u hj => ?_⟩⟩
  rw [cell_of_row (w.alloc (.cells cs.toArray e)) w.heap.size (0 + j) cs.toArray e (0, 0) (by show (w.heap.push _)[w.heap.size]? = _; rw [Array.getElem?_push, if_pos rfl]), Nat.zero_add]
  simpa using hj
/-- One more kid is appended. -/
theorem kids_step {Z : Nat} {wr w1 : World} {v : Value} {ks : List Tr} {i : Nat} {cs : List Value} {t : Tr} (h : KidsAt Z wr v ks i) (hb : Below wr.heap.size wr w1) (hL : Lies wr.heap.size w1.heap.size w1 t cs) (ht : ks[i]? = some t) (hmax : i ≤ 1000000) (hZ : Z ≤ wr.heap.size) :
    ∃ a' c' w2, (∀ ty, (app24 ty #[v, .slice (some ⟨w1.heap.size, 0, none⟩) 1 1]).run Tryd.prog (w1.alloc (.cells cs.toArray 26)) = .ok (.slice a' (i + 1) c') w2) ∧ KidsAt Z w2 (.slice a' (i + 1) c') ks (i + 1) ∧ Below Z wr w2 := by
  obtain ⟨Ks, hKl, hK5, ho, hK⟩ := h
  have hb1 : Below w1.heap.size w1 (w1.alloc (.cells cs.toArray 26)) := (Below.refl _ _).alloc (Nat.le_refl _) _
  have hb2 : Below wr.heap.size wr (w1.alloc (.cells cs.toArray 26)) := hb.trans (hb1.mono hb.size)
  have hsz := hb.size
  have ho1 : (w1.alloc (.cells cs.toArray 26)).ownsRow Z 26 5 v i Ks.flatten := owns_same ho (fun g hg => hb2.block g (owns_lt ho g hg).2) (fun g _ h => h)
  obtain ⟨v', w2, happ, ho2, hg, hf⟩ := app24_own _ Z _ _ v i Ks.flatten _ 1 1 cs ho1 (one_row w1 cs 26) (by rw [hL.length]) hL.one (by omega) (by simp; omega)
  obtain ⟨a', c', rfl, _⟩ := owns_slice ho2
  have hbw : Below Z wr w2 := (hb2.mono hZ).grown hg (by simp; omega) (fun k hk => (owns_lt ho1 k hk).1)
  have hs1 : (w1.alloc (.cells cs.toArray 26)).heap.size = w1.heap.size + 1 := by simp
  have hs2 := hg.size
  rw [hs1] at hs2 hf
  refine ⟨a', c', w2, happ, ⟨Ks ++ [cs], by rw [List.length_append, hKl]; rfl, ?_, ?_, ?_⟩, hbw⟩
  · intro c hc
    rcases List.mem_append.1 hc with h | h
    · exact hK5 c h
    · simp at h; subst h; exact hL.length
  · rw [List.flatten_append]; simpa using ho2
  · intro j t' c' hj hc
    by_cases hji : j < i
    · rw [List.getElem?_append_left (by omega)] at hc
      obtain ⟨L, H, hLj, hZL, hHw, hap⟩ := hK j t' c' hj hc
      refine ⟨L, H, hLj.same (fun k hk1 hk2 => ?_), hZL, by omega, fun g hgv => ?_⟩
      · rw [hg.block k (by rw [hs1]; omega) (fun e => by have := hap k e.symm; omega), hb2.block k (by omega)]
      · rcases hf with h | h
        · exact hap g (by rw [← h]; exact hgv)
        · rw [h] at hgv; simp at hgv; omega
    · obtain rfl : j = i := by
        have := (List.getElem?_eq_some_iff.1 hc).1
        simp at this; omega
      rw [ht] at hj
      cases hj
      rw [List.getElem?_append_right (by omega), hKl] at hc
      simp at hc
      subst hc
      refine ⟨wr.heap.size, w1.heap.size, hL.same (fun k hk1 hk2 => ?_), hZ, by omega, fun g hgv => ?_⟩
      · rw [hg.block k (by rw [hs1]; omega) (fun e => by have := (owns_lt ho k e.symm).2; omega), hb1.block k (by omega)]
      · rcases hf with h | h
        · have := (owns_lt ho g (by rw [← h]; exact hgv)).2; omega
        · rw [h] at hgv; simp at hgv; omega
theorem kids_end {Z : Nat} {w : World} {v : Value} {ks : List Tr} (h : KidsAt Z w v ks ks.length) :
    ∃ Ks : List (List Value), Ks.length = ks.length ∧ Row Z w.heap.size w v ks.length Ks.flatten ∧ ∀ (j : Nat) (t : Tr) (c : List Value), ks[j]? = some t → Ks[j]? = some c → Lies Z w.heap.size w t c := by
  obtain ⟨Ks, hKl, hK5, ho, hK⟩ := h
  exact ⟨Ks, hKl, owns_row ho (owns_lt ho), fun j t c hj hc => by obtain ⟨L, H, hL, h1, h2, _⟩ := hK j t c hj hc; exact hL.mono h1 h2⟩
/-- What the row of kids is in a world in which nothing of it has turned. -/
theorem KidsAt.same {Z : Nat} {w w' : World} {v : Value} {ks : List Tr} {i : Nat} (h : KidsAt Z w v ks i) (hs : ∀ k, Z ≤ k → k < w.heap.size → w'.heap[k]? = w.heap[k]?) (hz : w.heap.size ≤ w'.heap.size) : KidsAt Z w' v ks i := by
  obtain ⟨Ks, hKl, hK5, ho, hK⟩ := h
  refine ⟨Ks, hKl, hK5, owns_same ho (fun g hg => hs g (owns_lt ho g hg).1 (owns_lt ho g hg).2) (fun g _ h => h), fun j t c hj hc => ?_⟩
  obtain ⟨L, H, hL, h1, h2, h3⟩ := hK j t c hj hc
  exact ⟨L, H, hL.same (fun k hk1 hk2 => hs k (by omega) (by omega)), h1, by omega, h3⟩
end Go.Proofs.YthfjofmfiklegaaDoor
/- A tree in memory of its own: rows that share no block. -/
namespace Go.Proofs.YthfjofmfiklegaaDoor
open Go.RowKit
inductive Own (w : World) : Nat → Nat → Tr → List Value → Prop
  | mk (lo hi : Nat) (k : Int) (x : Bool) (d : ByteArray) (ns : List ByteArray) (ks : List Tr) (vd vn vk : Value) (Ks : List (List Value)) (L H : Nat → Nat) (hl : Ks.length = ks.length)
      (hd : w.ownsRow lo 5 1 vd d.size (byteVals d)) (hn : w.ownsRow lo 9 1 vn ns.length (ns.map .string)) (hk : w.ownsRow lo 26 5 vk ks.length Ks.flatten)
      (hin : ∀ g, (vd.ownBlock = some g ∨ vn.ownBlock = some g ∨ vk.ownBlock = some g) → g < hi) (hne : ∀ g, vk.ownBlock = some g → vd.ownBlock ≠ some g ∧ vn.ownBlock ≠ some g)
      (hdn : ∀ g, vn.ownBlock = some g → vd.ownBlock ≠ some g)
      (hK : ∀ (i : Nat) (t : Tr) (c : List Value), ks[i]? = some t → Ks[i]? = some c → Own w (L i) (H i) t c)
      (hLH : ∀ i, i < ks.length → lo ≤ L i ∧ H i ≤ hi ∧ ∀ g, (vd.ownBlock = some g ∨ vn.ownBlock = some g ∨ vk.ownBlock = some g) → g < L i ∨ H i ≤ g)
      (hdis : ∀ i j, i < j → j < ks.length → H i ≤ L j) : Own w lo hi (.mk k x d ns ks) [.int .i64 k, .bool x, vd, vn, vk]
theorem Own.same {w w' : World} {lo hi : Nat} {T : Tr} {cs : List Value} (h : Own w lo hi T cs) : (∀ k, lo ≤ k → k < hi → w'.heap[k]? = w.heap[k]?) → Own w' lo hi T cs := by
  induction h with
  | mk lo hi k x d ns ks vd vn vk Ks L H hl hd hn hk hin hne hdn hK hLH hdis ih =>
    intro hs
    refine .mk lo hi k x d ns ks vd vn vk Ks L H hl ?_ ?_ ?_ hin hne hdn (fun i t c h1 h2 => ih i t c h1 h2 (fun k hk1 hk2 => ?_)) hLH hdis
    · exact owns_same hd (fun g hg => hs g (owns_lt hd g hg).1 (hin g (.inl hg))) (fun _ _ h => h)
    · exact owns_same hn (fun g hg => hs g (owns_lt hn g hg).1 (hin g (.inr (.inl hg)))) (fun _ _ h => h)
    · exact owns_same hk (fun g hg => hs g (owns_lt hk g hg).1 (hin g (.inr (.inr hg)))) (fun _ _ h => h)
    · have := hLH i (List.getElem?_eq_some_iff.1 h1).1
      exact hs k (by omega) (by omega)
theorem Own.lies {w : World} {lo hi : Nat} {T : Tr} {cs : List Value} (h : Own w lo hi T cs) : Lies lo hi w T cs := by
  induction h with
  | mk lo hi k x d ns ks vd vn vk Ks L H hl hd hn hk hin hne hdn hK hLH hdis ih =>
    refine .mk k x d ns ks vd vn vk Ks hl (owns_row hd (fun g hg => ⟨(owns_lt hd g hg).1, hin g (.inl hg)⟩)) (owns_row hn (fun g hg => ⟨(owns_lt hn g hg).1, hin g (.inr (.inl hg))⟩)) (owns_row hk (fun g hg => ⟨(owns_lt hk g hg).1, hin g (.inr (.inr hg))⟩)) (fun i t c h1 h2 => ?_)
    have := hLH i (List.getElem?_eq_some_iff.1 h1).1
    exact (ih i t c h1 h2).mono (by omega) (by omega)
theorem Own.mono {w : World} {lo hi lo' hi' : Nat} {T : Tr} {cs : List Value} (h : Own w lo hi T cs) (h1 : lo' ≤ lo) (h2 : hi ≤ hi') : Own w lo' hi' T cs := by
  cases h with
  | mk _ _ k x d ns ks vd vn vk Ks L H hl hd hn hk hin hne hdn hK hLH hdis =>
    refine .mk lo' hi' k x d ns ks vd vn vk Ks L H hl (owns_same hd (fun _ _ => rfl) (fun _ _ h => by omega)) (owns_same hn (fun _ _ => rfl) (fun _ _ h => by omega)) (owns_same hk (fun _ _ => rfl) (fun _ _ h => by omega)) (fun g hg => by have := hin g hg; omega) hne hdn hK (fun i hi => ?_) hdis
    have := hLH i hi
    exact ⟨by omega, by omega, this.2.2⟩
/-- A clone under way: so many names, so many kids yet. -/
structure Cl (Z : Nat) (w : World) (vn vk : Value) (ns : List ByteArray) (ks : List Tr) (p q : Nat) : Prop where
  names : w.ownsRow Z 9 1 vn p ((ns.take p).map .string)
  kids : ∃ (Ks : List (List Value)) (L H : Nat → Nat), Ks.length = q ∧ (∀ c ∈ Ks, c.length = 5) ∧ w.ownsRow Z 26 5 vk q Ks.flatten ∧
    (∀ (j : Nat) (t : Tr) (c : List Value), ks[j]? = some t → Ks[j]? = some c → Own w (L j) (H j) t c ∧ Z ≤ L j ∧ H j ≤ w.heap.size ∧ ∀ g, (vn.ownBlock = some g ∨ vk.ownBlock = some g) → g < L j ∨ H j ≤ g) ∧ ∀ i j, i < j → j < q → H i ≤ L j
  ne : ∀ g, vk.ownBlock = some g → vn.ownBlock ≠ some g
/-- Nothing of it has turned. -/
theorem Cl.same {Z : Nat} {w w' : World} {vn vk : Value} {ns : List ByteArray} {ks : List Tr} {p q : Nat} (h : Cl Z w vn vk ns ks p q) (hs : ∀ k, Z ≤ k → k < w.heap.size → w'.heap[k]? = w.heap[k]?) (hz : w.heap.size ≤ w'.heap.size) : Cl Z w' vn vk ns ks p q := by
  obtain ⟨hn, ⟨Ks, L, H, hKl, hK5, ho, hK, hdis⟩, hne⟩ := h
  refine ⟨owns_same hn (fun g hg => hs g (owns_lt hn g hg).1 (owns_lt hn g hg).2) (fun _ _ h => h), ⟨Ks, L, H, hKl, hK5, owns_same ho (fun g hg => hs g (owns_lt ho g hg).1 (owns_lt ho g hg).2) (fun _ _ h => h), fun j t c hj hc => ?_, hdis⟩, hne⟩
  obtain ⟨h1, h2, h3, h4⟩ := hK j t c hj hc
  exact ⟨h1.same (fun k hk1 hk2 => hs k (by omega) (by omega)), h2, by omega, h4⟩
/-- One more name. -/
theorem cl_name {Z : Nat} {wr w1 : World} {vn vk : Value} {ns : List ByteArray} {ks : List Tr} {p q : Nat} (s : ByteArray) (h : Cl Z wr vn vk ns ks p q) (hb : Below wr.heap.size wr w1) (hs : ns[p]? = some s) (hmax : p ≤ 1000000) (hZ : Z ≤ wr.heap.size) :
    ∃ a' c' w2, (∀ ty, (app23 ty #[vn, .slice (some ⟨w1.heap.size, 0, none⟩) 1 1]).run Tryd.prog (w1.alloc (.cells #[.string s] 9)) = .ok (.slice a' (p + 1) c') w2) ∧ Cl Z w2 (.slice a' (p + 1) c') vk ns ks (p + 1) q ∧ Below Z wr w2 ∧ wr.heap.size ≤ w2.heap.size := by
  have h1 := h.same (w' := w1.alloc (.cells #[.string s] 9)) (fun k _ hk => by rw [Below.heap_alloc _ _ _ (by have := hb.size; omega), hb.block k hk]) (by have := hb.size; simp; omega)
  obtain ⟨hn, ⟨Ks, L, H, hKl, hK5, ho, hK, hdis⟩, hne⟩ := h1
  have hsz := hb.size
  obtain ⟨v', w2, happ, ho2, hg, hf⟩ := app23_own _ Z _ _ vn p _ _ 1 1 [.string s] hn (one_row w1 [.string s] 9) rfl (fun u hu => by simp at hu; subst hu; rfl) (by omega) (by simp; omega)
  obtain ⟨a', c', rfl, _⟩ := owns_slice ho2
  have hs1 : (w1.alloc (.cells #[.string s] 9)).heap.size = w1.heap.size + 1 := by simp
  have hs2 := hg.size
  rw [hs1] at hs2 hf
  have hb0 : Below Z wr (w1.alloc (.cells #[.string s] 9)) := (hb.mono hZ).alloc (by omega) _
  refine ⟨a', c', w2, happ, ⟨?_, ⟨Ks, L, H, hKl, hK5, owns_same ho (fun g hgk => hg.block g (owns_lt ho g hgk).2 (fun e => hne g hgk e.symm)) (fun _ _ h => h), fun j t c hj hc => ?_, hdis⟩, ?_⟩, hb0.grown hg (by omega) (fun k hk => (owns_lt hn k hk).1), by omega⟩
  · rw [List.take_add_one, hs]
    simpa using ho2
  · obtain ⟨q1, q2, q3, q4⟩ := hK j t c hj hc
    rw [hs1] at q3
    refine ⟨q1.same (fun k hk1 hk2 => hg.block k (by rw [hs1]; omega) (fun e => by have := q4 k (.inl e.symm); omega)), q2, by omega, fun g hgv => ?_⟩
    rcases hgv with hgv | hgv
    · rcases hf with e | e
      · exact q4 g (.inl (by rw [← e]; exact hgv))
      · rw [e] at hgv; simp at hgv; omega
    · exact q4 g (.inr hgv)
  · intro g hgk e
    rcases hf with e2 | e2
    · exact hne g hgk (by rw [← e2]; exact e)
    · rw [e2] at e
      have := (owns_lt ho g hgk).2
      simp at e
      omega
/-- One more kid. -/
theorem cl_kid {Z : Nat} {wr w1 : World} {vn vk : Value} {ns : List ByteArray} {ks : List Tr} {p q : Nat} {cs : List Value} {t : Tr} (h : Cl Z wr vn vk ns ks p q) (hb : Below wr.heap.size wr w1) (hL : Own w1 wr.heap.size w1.heap.size t cs) (ht : ks[q]? = some t) (hmax : q ≤ 1000000) (hZ : Z ≤ wr.heap.size) :
    ∃ a' c' w2, (∀ ty, (app24 ty #[vk, .slice (some ⟨w1.heap.size, 0, none⟩) 1 1]).run Tryd.prog (w1.alloc (.cells cs.toArray 26)) = .ok (.slice a' (q + 1) c') w2) ∧ Cl Z w2 vn (.slice a' (q + 1) c') ns ks p (q + 1) ∧ Below Z wr w2 ∧ wr.heap.size ≤ w2.heap.size := by
  have hsz := hb.size
  have hs1 : (w1.alloc (.cells cs.toArray 26)).heap.size = w1.heap.size + 1 := by simp
  have hsame : ∀ k, k < wr.heap.size → (w1.alloc (.cells cs.toArray 26)).heap[k]? = wr.heap[k]? := fun k hk => by rw [Below.heap_alloc _ _ _ (by omega), hb.block k hk]
  obtain ⟨hn0, ⟨Ks, L, H, hKl, hK5, ho0, hK, hdis⟩, hne⟩ := h
  have hn := owns_same (base' := Z) hn0 (fun g hg => hsame g (owns_lt hn0 g hg).2) (fun _ _ h => h)
  have ho := owns_same (base' := Z) ho0 (fun g hg => hsame g (owns_lt ho0 g hg).2) (fun _ _ h => h)
  obtain ⟨v', w2, happ, ho2, hg, hf⟩ := app24_own _ Z _ _ vk q _ _ 1 1 cs ho (one_row w1 cs 26) (by rw [hL.lies.length]) hL.lies.one (by omega) (by simp; omega)
  obtain ⟨a', c', rfl, _⟩ := owns_slice ho2
  have hs2 := hg.size
  rw [hs1] at hs2 hf
  have hb0 : Below Z wr (w1.alloc (.cells cs.toArray 26)) := (hb.mono hZ).alloc (by omega) _
  refine ⟨a', c', w2, happ, ⟨?_, ⟨Ks ++ [cs], fun j => if j < q then L j else wr.heap.size, fun j => if j < q then H j else w1.heap.size, ?_, ?_, ?_, fun j t' c hj hc => ?_, ?_⟩, ?_⟩, hb0.grown hg (by omega) (fun k hk => (owns_lt ho k hk).1), by omega⟩
  · exact owns_same hn (fun g hgn => hg.block g (by have := (owns_lt hn0 g hgn).2; omega) (fun e => hne g e.symm hgn)) (fun _ _ h => h)
  · rw [List.length_append, hKl]; rfl
  · intro c hc
    rcases List.mem_append.1 hc with h | h
    · exact hK5 c h
    · simp at h; subst h; exact hL.lies.length
  · rw [List.flatten_append]; simpa using ho2
  · by_cases hji : j < q
    · rw [List.getElem?_append_left (by omega)] at hc
      obtain ⟨q1, q2, q3, q4⟩ := hK j t' c hj hc
      simp only [if_pos hji]
      refine ⟨q1.same (fun k hk1 hk2 => ?_), q2, by omega, fun g hgv => ?_⟩
      · rw [hg.block k (by rw [hs1]; omega) (fun e => by have := q4 k (.inr e.symm); omega), hsame k (by omega)]
      · rcases hgv with hgv | hgv
        · exact q4 g (.inl hgv)
        · rcases hf with e | e
          · exact q4 g (.inr (by rw [← e]; exact hgv))
          · rw [e] at hgv; simp at hgv; omega
    · obtain rfl : j = q := by
        have := (List.getElem?_eq_some_iff.1 hc).1
        simp at this; omega
      rw [ht] at hj
      cases hj
      rw [List.getElem?_append_right (by omega), hKl] at hc
      simp at hc
      subst hc
      simp only [if_neg (Nat.lt_irrefl j)]
      refine ⟨hL.same (fun k hk1 hk2 => ?_), hZ, by omega, fun g hgv => ?_⟩
      · rw [hg.block k (by rw [hs1]; omega) (fun e => by have := (owns_lt ho0 k e.symm).2; omega), Below.heap_alloc _ _ _ (by omega)]
      · rcases hgv with hgv | hgv
        · have := (owns_lt hn0 g hgv).2; omega
        · rcases hf with e | e
          · have := (owns_lt ho0 g (by rw [← e]; exact hgv)).2; omega
          · rw [e] at hgv; simp at hgv; omega
  · intro i j hij hj
    by_cases hjq : j < q
    · simp only [if_pos hjq, if_pos (show i < q by omega)]; exact hdis i j hij hjq
    · obtain rfl : j = q := by omega
      simp only [if_neg (Nat.lt_irrefl j), if_pos hij]
      have hqk := (List.getElem?_eq_some_iff.1 ht).1
      exact (hK i ks[i] Ks[i] (List.getElem?_eq_getElem (by omega)) (List.getElem?_eq_getElem (by omega))).2.2.1
  · intro g hgk e
    rcases hf with e2 | e2
    · exact hne g (by rw [← e2]; exact hgk) e
    · rw [e2] at hgk
      have := (owns_lt hn0 g e).2
      simp at hgk
      omega
/-- The clone is whole. -/
theorem cl_end {Z lo : Nat} {w : World} {k : Int} {x : Bool} {d : ByteArray} {ns : List ByteArray} {ks : List Tr} {vd vn vk : Value} (h : Cl Z w vn vk ns ks ns.length ks.length) (hd : w.ownsRow lo 5 1 vd d.size (byteVals d)) (hdZ : ∀ g, vd.ownBlock = some g → g < Z) (hlo : lo ≤ Z) : Own w lo w.heap.size (.mk k x d ns ks) [.int .i64 k, .bool x, vd, vn, vk] := by
  obtain ⟨hn, ⟨Ks, L, H, hKl, hK5, ho, hK, hdis⟩, hne⟩ := h
  rw [List.take_length] at hn
  refine .mk lo w.heap.size k x d ns ks vd vn vk Ks L H hKl hd (owns_same hn (fun _ _ => rfl) (fun _ _ h => by omega)) (owns_same ho (fun _ _ => rfl) (fun _ _ h => by omega)) ?_ ?_ ?_ (fun i t c h1 h2 => (hK i t c h1 h2).1) (fun i hi => ?_) hdis
  · rintro g (h | h | h)
    · exact (owns_lt hd g h).2
    · exact (owns_lt hn g h).2
    · exact (owns_lt ho g h).2
  · intro g hg
    refine ⟨fun e => ?_, hne g hg⟩
    have h1 := hdZ g e
    have h2 := (owns_lt ho g hg).1
    omega
  · intro g hg e
    have h1 := hdZ g e
    have h2 := (owns_lt hn g hg).1
    omega
  · obtain ⟨_, h2, h3, h4⟩ := hK i ks[i] Ks[i] (List.getElem?_eq_getElem hi) (List.getElem?_eq_getElem (by omega))
    refine ⟨by omega, h3, fun g hg => ?_⟩
    rcases hg with hg | hg
    · have := hdZ g hg; omega
    · exact h4 g hg
end Go.Proofs.YthfjofmfiklegaaDoor
/- slices.Grow of nothing. -/
namespace Go.Proofs.YthfjofmfiklegaaDoor
open Go.RowKit
def app23z (ty : TypeId) (args : Array Value) : Sem Value := Builtin.append_ #[23, 3] ty args
@[go_sem ↓] theorem append_app23z (ty : TypeId) (args : Array Value) : Builtin.append_ #[23, 3] ty args = app23z ty args := rfl
set_option maxRecDepth 20000 in
set_option maxHeartbeats 1000000 in
/-- slices.Grow of nothing: nothing, or a new row with room. -/
theorem grow23_nil (n : Nat) (w : World) (hn : n ≤ 1000000) :
    Calls Tryd.prog 55 #[.slice none 0 0, .int .i64 (n : Int)] w fun e w' => ∃ a c, e = .returned (.slice a 0 c) ∧ w'.ownsRow w.heap.size 9 1 (.slice a 0 c) 0 [] ∧ Below w.heap.size w w' ∧ n ≤ c ∧ (∀ g, (Value.slice a 0 c).ownBlock = some g → g < w'.heap.size) := by
  by_cases h0 : n = 0
  · subst h0
    go_enter Tryd.func55, Tryd.ntmps55
    go_wp2_with fail
    go_ret
    exact ⟨none, 0, rfl, ⟨by simp, .inl ⟨rfl, rfl⟩⟩, Below.refl _ _, Nat.le_refl _, fun g hg => by simp [Value.ownBlock] at hg⟩
  · obtain ⟨i, hi, hz, hsz, hby⟩ := info9
    have hz1 : (.string ⟨#[]⟩ : Value).cells.size = 1 := rfl
    have happ := fun ty => Lib.run_append_grow_zeros (P := Tryd.prog) w 23 3 ty 9 i (.string ⟨#[]⟩) .i64 .i64 Tryd.underlying23 Tryd.underlying3 hi hz none 0 0 [] (run_firstCells_none _ _ _ _ _) n (by omega) (by omega) (by omega) (by omega) (by rw [hby]; omega) (growslice_fits (by omega) (by rw [hby]; omega))
    have hge := grownCap_ge w (0 + n) 0 9
    have hle : grownCap w (0 + n) 0 9 ≤ maxLen := grownCap_le_maxLen _ _ _ _ (by simp only [maxLen]; omega)
    have happ' : ∀ ty, (app23z ty #[.slice none 0 0, .int .i64 (n : Int)]).run Tryd.prog w = _ := happ
    simp only [Nat.zero_add] at happ' hge hle
    obtain ⟨G, hG⟩ : ∃ G, G = grownCap w n 0 9 := ⟨_, rfl⟩
    rw [← hG] at happ' hge hle
    obtain ⟨C, hC⟩ : ∃ C, C = ([].toArray ++ Builtin.zeroCells (.string ⟨#[]⟩ : Value).cells n ++ Builtin.zeroCells (.string ⟨#[]⟩ : Value).cells (G - n) : Array Value) := ⟨_, rfl⟩
    rw [← hC] at happ'
    have HC : Hid (C.size = G * 1) := by
      show C.size = _
      rw [hC, Array.size_append, Array.size_append, size_zeroCells, size_zeroCells, hz1]
      simp
      omega
    clear hC hG happ hi hz hsz hby hz1
    have hn1 : ¬ ((n : Int) < 0) := by omega
    have hn2 : (0 : Int) < (n : Int) := by omega
    go_enter Tryd.func55, Tryd.ntmps55
    go_wp2_with fail
    go_ret
    refine ⟨_, _, rfl, ⟨by simp, .inr ⟨w.heap.size, G, C, rfl, Nat.le_refl _, ?_, Nat.zero_le _, hle, unhide HC, by simp⟩⟩, ?_, by omega, fun g hg => ?_⟩
    · show (w.heap.push _)[w.heap.size]? = _; rw [Array.getElem?_push, if_pos rfl]
    · exact ((Below.refl _ w).alloc (Nat.le_refl _) _).drew
    · simp [Value.ownBlock] at hg; subst hg; simp
def app24z (ty : TypeId) (args : Array Value) : Sem Value := Builtin.append_ #[24, 3] ty args
@[go_sem ↓] theorem append_app24z (ty : TypeId) (args : Array Value) : Builtin.append_ #[24, 3] ty args = app24z ty args := rfl
set_option maxRecDepth 20000 in
set_option maxHeartbeats 1000000 in
/-- slices.Grow of nothing: nothing, or a new row with room. -/
theorem grow24_nil (n : Nat) (w : World) (hn : n ≤ 1000000) :
    Calls Tryd.prog 56 #[.slice none 0 0, .int .i64 (n : Int)] w fun e w' => ∃ a c, e = .returned (.slice a 0 c) ∧ w'.ownsRow w.heap.size 26 5 (.slice a 0 c) 0 [] ∧ Below w.heap.size w w' ∧ n ≤ c ∧ (∀ g, (Value.slice a 0 c).ownBlock = some g → g < w'.heap.size) := by
  by_cases h0 : n = 0
  · subst h0
    go_enter Tryd.func56, Tryd.ntmps56
    go_wp2_with fail
    go_ret
    exact ⟨none, 0, rfl, ⟨by simp, .inl ⟨rfl, rfl⟩⟩, Below.refl _ _, Nat.le_refl _, fun g hg => by simp [Value.ownBlock] at hg⟩
  · obtain ⟨i, hi, hz, hsz, hby⟩ := info26
    have hz1 : (.agg #[.int .i64 0, .bool false, .slice none 0 0, .slice none 0 0, .slice none 0 0] : Value).cells.size = 5 := rfl
    have happ := fun ty => Lib.run_append_grow_zeros (P := Tryd.prog) w 24 3 ty 26 i (.agg #[.int .i64 0, .bool false, .slice none 0 0, .slice none 0 0, .slice none 0 0]) .i64 .i64 Tryd.underlying24 Tryd.underlying3 hi hz none 0 0 [] (run_firstCells_none _ _ _ _ _) n (by omega) (by omega) (by omega) (by omega) (by rw [hby]; omega) (growslice_fits (by omega) (by rw [hby]; omega))
    have hge := grownCap_ge w (0 + n) 0 26
    have hle : grownCap w (0 + n) 0 26 ≤ maxLen := grownCap_le_maxLen _ _ _ _ (by simp only [maxLen]; omega)
    have happ' : ∀ ty, (app24z ty #[.slice none 0 0, .int .i64 (n : Int)]).run Tryd.prog w = _ := happ
    simp only [Nat.zero_add] at happ' hge hle
    obtain ⟨G, hG⟩ : ∃ G, G = grownCap w n 0 26 := ⟨_, rfl⟩
    rw [← hG] at happ' hge hle
    obtain ⟨C, hC⟩ : ∃ C, C = ([].toArray ++ Builtin.zeroCells (.agg #[.int .i64 0, .bool false, .slice none 0 0, .slice none 0 0, .slice none 0 0] : Value).cells n ++ Builtin.zeroCells (.agg #[.int .i64 0, .bool false, .slice none 0 0, .slice none 0 0, .slice none 0 0] : Value).cells (G - n) : Array Value) := ⟨_, rfl⟩
    rw [← hC] at happ'
    have HC : Hid (C.size = G * 5) := by
      show C.size = _
      rw [hC, Array.size_append, Array.size_append, size_zeroCells, size_zeroCells, hz1]
      simp
      omega
    clear hC hG happ hi hz hsz hby hz1
    have hn1 : ¬ ((n : Int) < 0) := by omega
    have hn2 : (0 : Int) < (n : Int) := by omega
    go_enter Tryd.func56, Tryd.ntmps56
    go_wp2_with fail
    go_ret
    refine ⟨_, _, rfl, ⟨by simp, .inr ⟨w.heap.size, G, C, rfl, Nat.le_refl _, ?_, Nat.zero_le _, hle, unhide HC, by simp⟩⟩, ?_, by omega, fun g hg => ?_⟩
    · show (w.heap.push _)[w.heap.size]? = _; rw [Array.getElem?_push, if_pos rfl]
    · exact ((Below.refl _ w).alloc (Nat.le_refl _) _).drew
    · simp [Value.ownBlock] at hg; subst hg; simp
end Go.Proofs.YthfjofmfiklegaaDoor
