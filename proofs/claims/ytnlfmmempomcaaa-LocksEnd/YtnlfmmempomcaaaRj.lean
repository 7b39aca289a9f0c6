/- Leave: the walk. -/
import Derived.Test.YtnlfmmempomcaaaRi
namespace Go.Proofs.Ytnlfmmempomcaaa
open Go.RowKit Go.Maps
set_option linter.unusedSimpArgs false
set_option maxRecDepth 20000 in
set_option maxHeartbeats 1000000 in
theorem leave_none {k : Nat} (O : Ghost) (tb : Nat) (S : St) (F : ByteArray → Option Nat) (G : Int → Option Nat) (lm tm : Option Nat) (w : World) (hM : Mem k O w) (h : Rp O tb S none F G lm tm) (n : Int) (hn : IOk n) (hG : G n = none) :
    Calls Try.prog 17 #[.pointer (some ⟨tb, 0, none⟩), .int .i64 n] w fun e w' => e = .returned (.slice none 0 0) ∧ w' = w := by
  have c1 := hM.cell h.tbl (i := 1) rfl
  cases tm with
  | none =>
    have hl := I_look_nil (w := w) hn
    clear hM h
    unfold ptr at hl
    go_enter Try.func17, Try.ntmps17
    go_wp2_with fail
    go_ret
    exact ⟨rfl, rfl⟩
  | some mb =>
    have hl := I_look (hM.im (h.tm1 mb rfl)) hn
    rw [if_neg (by simp), hG] at hl
    clear hM h
    unfold ptr at hl
    go_enter Try.func17, Try.ntmps17
    go_wp2_with fail
    go_ret
    exact ⟨rfl, rfl⟩
/-- How many stand in the row in which a task stands. -/
def St.queue (S : St) (n : Int) : Nat := match S.wt n with
  | none => 0
  | some x => (S.rw x.1).length
theorem stop_len (S : St) (n : Int) : (S.stop n).2.length ≤ S.queue n := by
  unfold St.stop St.queue
  cases e : S.wt n with
  | none => exact Nat.le_refl _
  | some x =>
    have h1 := go_less x.1 _ (S.unwait n x.1) rfl
    have h2 : ((S.unwait n x.1).rw x.1).length ≤ (S.rw x.1).length := by rw [S.unwait_rw]; exact List.length_filter_le _ _
    show ((S.unwait n x.1).go x.1).2.length ≤ (S.rw x.1).length
    omega
/-- What the rest of Leave starts with: behind the first. -/
def LvA (k B tb : Nat) (S : St) (n : Int) (F : ByteArray → Option Nat) (G : Int → Option Nat) (lm : Option Nat) (mb : Nat) (O : Ghost) (w : World) (v : Value) (wr : World) : Prop :=
  ∃ Or, Rp Or tb (S.stop n).1 (some n) F G lm (some mb) ∧ Mem k Or wr ∧ Stp 0 B O Or w wr ∧ Nums B Or wr v (S.stop n).2
section
variable {k C B tb a : Nat} {S : St} {n : Int} {F : ByteArray → Option Nat} {G : Int → Option Nat} {lm : Option Nat} {mb : Nat} {O : Ghost} {w wr : World} {v : Value}
theorem lv_start (hI : Inv S) (hE : Emp S) (hB : B ≤ w.heap.size) (hk : k < 1000000) (hsz : ∀ t b, F t = some b → t.size ≤ 100000) (hG : G n = some a) (hC : ∀ ks, Names (fun t => n ∈ (S.stop n).1.hs t) ks → k + 2 * sumRw (S.stop n).1 ks ≤ C ∧ (S.stop n).2.length + sumRw (S.stop n).1 ks ≤ C) (h : LvA k B tb S n F G lm mb O w v wr) :
    ∃ am, wr.cell? ⟨a, 1, none⟩ = some (.map (some am)) ∧
      Calls Try.prog 49 #[.func (.func 65) #[] #[.pointer (some ⟨wr.heap.size, 0, none⟩)]] (wr.alloc (.cells #[.map (some am)] 70)) fun e w' => ∃ (ks : List ByteArray), Hid (Names (fun t => n ∈ (S.stop n).1.hs t) ks) ∧ ((e = .returned (.slice none 0 0) ∧ Hid (Told C B tb (St.leaves n ks (S.stop n).1).1 ((S.stop n).2 ++ (St.leaves n ks (S.stop n).1).2) O w v w')) ∨ ∃ (g : Nat) (c N : Nat), e = .returned (.slice (some ⟨g, 0, none⟩) N c) ∧ Hid (N = ks.length) ∧ (N : Int) ≤ 1000000 ∧ Hid (LvR C B tb a (S.stop n).1 n ks g (S.stop n).2 G mb O w v (.int .i64 0) w')) := by
  obtain ⟨Or, hR, hM, hst, hnum⟩ := h
  obtain ⟨am, z, u, g1, gu, g2, g3⟩ := hR.ask n a hG
  refine ⟨am, hM.cell g1 (i := 1) rfl, (sorted49_ok (hM.sm g3) hk).mono ?_⟩
  rintro e w' ⟨v2, ks, rfl, hrow, hN, hb, hkl⟩
  have hN' : Names (fun t => n ∈ (S.stop n).1.hs t) ks := ⟨hN.up, hN.nd, fun t => (hN.mem t).trans (by
    constructor
    · intro h1
      by_cases e : n ∈ (S.stop n).1.hs t
      · exact e
      · rw [if_neg e] at h1; exact absurd rfl h1
    · intro h1
      obtain ⟨⟨b, hb⟩, _⟩ := hR.liveh t n h1
      rw [if_pos h1, hb]; simp)⟩
  obtain ⟨hC1, hC2⟩ := hC ks hN'
  obtain ⟨hwt, hhs⟩ := stop_wt S n
  have hM' : Mem k Or w' := hM.below hb fun q o e => hM.lt e
  have hst' : Stp 0 B O Or w w' := hst.trans ((Stp.ofBelow hb).mono (Nat.le_trans hB hst.size))
  have hnum' : Nums B Or w' v (S.stop n).2 := hnum.kept (Stp.ofBelow (c := 0) hb)
  have hstart : ∀ g', SRow w' g' ks → Or g' = none → LvR C B tb a (S.stop n).1 n ks g' (S.stop n).2 G mb O w v (.int .i64 0) w' := fun g' h1 h2 =>
    ⟨0, (S.stop n).1, Or, F, lm, [], k, rfl, Nat.zero_le _, rfl, rfl, hR, stop_inv hI n, stop_emp hE n, hwt, fun t => by rw [List.drop_zero]; exact (hN'.mem t).symm, hM', hC1, by simpa using hC2, hst', by simpa using hnum', h1, h2, hsz, hG⟩
  obtain ⟨_, h2⟩ := hrow
  rcases h2 with ⟨hv, h0⟩ | ⟨g, cap, cur, hv, hg, hh, hn, hc, hs, ht⟩
  · obtain rfl : ks = [] := List.length_eq_zero_iff.1 h0
    refine ⟨[], hN', .inl ⟨by rw [hv], ?_⟩⟩
    have hno : ∀ t, n ∉ (S.stop n).1.hs t := fun t ht => by have := (hN'.mem t).2 ht; cases this
    refine ⟨Or, ⟨F, _, lm, some mb, hR.gone hno fun s x hx => ?_, stop_inv hI n, stop_emp hE n, hsz⟩, hM'.mono (by omega), hst', by simpa [St.leaves] using hnum'⟩
    have := ((stop_inv hI n).wait n s x).2 hx
    rw [hwt] at this
    cases this
  · refine ⟨ks, hN', .inr ⟨g, cap, ks.length, by rw [hv], rfl, by omega, hstart g ⟨cur, hh, fun j x hx => ?_⟩ (hM.out' hg)⟩⟩
    have h3 : (ks.map Value.string)[j]? = some (.string x) := by rw [List.getElem?_map, hx]; rfl
    rw [← ht, List.getElem?_take] at h3
    split at h3
    · simp only [World.cell?, hh]
      rw [Array.getElem?_toList] at h3
      exact h3
    · cases h3
end
set_option maxRecDepth 20000 in
set_option maxHeartbeats 2000000 in
theorem leave_ok {k C B : Nat} (O : Ghost) (tb a mb : Nat) (S : St) (F : ByteArray → Option Nat) (G : Int → Option Nat) (lm : Option Nat) (w : World) (hM : Mem k O w) (h : Rp O tb S none F G lm (some mb)) (hI : Inv S) (hE : Emp S) (hsz : ∀ t b, F t = some b → t.size ≤ 100000) (n : Int) (hn : IOk n) (hG : G n = some a) (hB : B ≤ w.heap.size) (hCm : C < 1000000)
    (hCq : k + 2 * S.queue n ≤ C) (hC : ∀ ks, Names (fun t => n ∈ (S.stop n).1.hs t) ks → k + 2 * (S.queue n + sumRw (S.stop n).1 ks) ≤ C) :
    Calls Try.prog 17 #[.pointer (some ⟨tb, 0, none⟩), .int .i64 n] w fun e w' => ∃ v, e = .returned v ∧ LeftE C B tb S n O w v w' := by
  have c1 := hM.cell h.tbl (i := 1) rfl
  have hl := I_look (hM.im (h.tm1 mb rfl)) hn
  rw [if_neg (by simp), hG] at hl
  have hmb : O mb = some ⟨0, tb, .imap G⟩ := by simpa using h.tm1 mb rfl
  obtain ⟨w1, hd, hS1, ht1⟩ := I_drop (hM.im hmb) hn 0
  have hM1 : Mem k _ w1 := hM.turn (o := ⟨0, tb, .imap (iupd G n none)⟩) ht1 hS1 (Nat.le_refl _)
  have hs1 : Stp 0 B O _ w w1 := Stp.turn (t' := .imap (iupd G n none)) hmb hB ht1
  have hR1 := h.aside (n := n) (O' := put O mb ⟨0, tb, .imap (iupd G n none)⟩) (fun q o hq e => by rw [put_other _ _ hq]; exact e) (put_same _ _ _)
  obtain ⟨am, z, u, g1, gu, g2, g3⟩ := h.ask n a hG
  obtain rfl := gu (by simp)
  have nam : a ≠ mb := fun e => by rw [e, hmb] at g1; simp [askO] at g1
  have d2 := hM1.cell (b := a) (by rw [put_other _ _ nam]; exact g1) (i := 2) rfl
  have HST : Hid (∀ v wr, LvA (k + 2 * S.queue n) B tb S n F G lm mb O w v wr → _) := fun v wr hA => lv_start (C := C) hI hE hB (by omega) hsz hG (fun ks hks => by
    have h1 := hC ks hks
    have h2 := stop_len S n
    exact ⟨by omega, by omega⟩) hA
  have HB := hide hB
  change (del71 0 #[.map (some mb), .int .i64 n]).run Try.prog w = _ at hd
  cases hwt : S.wt n with
  | none =>
    have HA : Hid (LvA (k + 2 * S.queue n) B tb S n F G lm mb O w (.slice none 0 0) w1) := by
      have e : S.stop n = (S, []) := by unfold St.stop; rw [hwt]
      refine ⟨_, by rw [e]; exact hR1, hM1.mono (by omega), hs1, by rw [e]; exact Nums.nil _ _ _⟩
    obtain ⟨am', y1, y2⟩ := unhide HST _ _ (unhide HA)
    have HS := hide y2
    have HK := hide (keys50_ok am' w1)
    rw [hwt] at d2
    simp only [Option.bind_none] at d2
    clear hM h hI hE hsz hG hC hM1 hs1 hR1 hmb hS1 ht1 g1 g2 g3 gu hwt y2 HST
    unfold ptr at hl d2
    go_enter Try.func17, Try.ntmps17
    go_wp2_with (first | (go_at_call 50; refine (unhide HK).mono ?_; rintro e w' ⟨rfl, rfl⟩) | (go_at_call 49; refine (unhide HS).mono ?_; rintro e w5 ⟨ks, HN, ⟨rfl, HT⟩ | ⟨g, c, N, rfl, HNk, hNI, HL⟩⟩))
    · go_loopw [6, 49] (fun v i wr => v = .slice none 0 0 ∧ i = .int .i64 0 ∧ wr = w5) (fun _ _ _ => 0)
      case atStart => exact ⟨rfl, rfl, rfl⟩
      case round =>
        obtain ⟨rfl, rfl, rfl⟩ := hrel
        go_wp2_with fail
        go_ret
        exact ⟨_, rfl, ks, unhide HN, unhide HT⟩
    · go_loopw [6, 49] (fun v i wr => LvR C B tb a (S.stop n).1 n ks g (S.stop n).2 G mb O w v i wr) (fun _ i _ => N - (intOf i).toNat)
      case atStart => exact unhide HL
      case round =>
        have hr := lv_round hCm (unhide HB) (unhide HN).nd hrel
        obtain ⟨j, rfl, hj, hrd⟩ := hr
        have HR := hide hrel
        by_cases hjN : j < N
        · obtain ⟨t, ht⟩ : ∃ t, ks[j]? = some t := ⟨_, List.getElem?_eq_getElem (by have := unhide HNk; omega)⟩
          obtain ⟨e1, e2⟩ := hrd t ht
          have HC := hide e2
          have hjI : (j : Int) < (N : Int) := by omega
          clear hrel hrd e2 ht hj
          go_wp2_with (go_at_call 45; refine (unhide HC).mono ?_; rintro e w3 ⟨v2, rfl, v3, w4, hap, HX⟩)
          go_roundw
          case rel => exact unhide HX
          case measure => simp [intOf]; omega
        · obtain rfl : j = N := by have := unhide HNk; omega
          have HE : Hid (LeftE C B tb S n O w u6 wr) := ⟨ks, unhide HN, lv_end (by have := unhide HR; rw [unhide HNk] at this; exact this)⟩
          clear hrel hrd hj HR
          go_wp2_with fail
          go_ret
          exact ⟨_, rfl, unhide HE⟩
  | some x =>
    obtain ⟨s, z0⟩ := x
    obtain ⟨⟨b, hF⟩, _⟩ := h.livew s n z0 ((hI.wait n s z0).1 hwt)
    have hq : S.queue n = (S.rw s).length := by unfold St.queue; rw [hwt]
    have hun : ((S.unwait n s).rw s).length ≤ (S.rw s).length := by rw [S.unwait_rw]; exact List.length_filter_le _ _
    have HW := hide (without_ok (B := B) _ tb b a S s n F G lm (some mb) w1 hM1 hR1 hI hwt hF hG (by omega) (Nat.le_trans hB hs1.size))
    have HA : Hid (∀ v w2, GoE k B tb (S.unwait n s) s (some n) F G lm (some mb) (put O mb ⟨0, tb, .imap (iupd G n none)⟩) w1 v w2 → LvA (k + 2 * S.queue n) B tb S n F G lm mb O w v w2) := fun v w2 ⟨O2, p1, p2, p3, p4, p5⟩ => by
      have e : S.stop n = (S.unwait n s).go s := by unfold St.stop; rw [hwt]
      exact ⟨O2, by rw [e]; exact p1, p3.mono (by omega), hs1.trans p4, by rw [e]; exact p5⟩
    rw [hwt] at d2
    simp only [Option.bind_some, hF] at d2
    clear hM h hI hE hsz hG hC hM1 hs1 hR1 hmb hS1 ht1 g1 g2 g3 gu hwt hF hun hq
    unfold ptr at hl d2
    go_enter Try.func17, Try.ntmps17
    go_wp2_with (first | (go_at_call 48; refine (unhide HW).mono ?_; rintro e w2 ⟨v, rfl, hg⟩; have HA2 := unhide HA v w2 hg; obtain ⟨am', y1, y2⟩ := unhide HST _ _ HA2; have HS := hide y2; have HK := hide (keys50_ok am' w2); clear y2 hg HA2) | (go_at_call 50; refine (unhide HK).mono ?_; rintro e w' ⟨rfl, rfl⟩) | (go_at_call 49; refine (unhide HS).mono ?_; rintro e w5 ⟨ks, HN, ⟨rfl, HT⟩ | ⟨g, c, N, rfl, HNk, hNI, HL⟩⟩))
    · go_loopw [6, 49] (fun v' i wr => v' = v ∧ i = .int .i64 0 ∧ wr = w5) (fun _ _ _ => 0)
      case atStart => exact ⟨rfl, rfl, rfl⟩
      case round =>
        obtain ⟨rfl, rfl, rfl⟩ := hrel
        go_wp2_with fail
        go_ret
        exact ⟨_, rfl, ks, unhide HN, unhide HT⟩
    · go_loopw [6, 49] (fun v' i wr => LvR C B tb a (S.stop n).1 n ks g (S.stop n).2 G mb O w v' i wr) (fun _ i _ => N - (intOf i).toNat)
      case atStart => exact unhide HL
      case round =>
        have hr := lv_round hCm (unhide HB) (unhide HN).nd hrel
        obtain ⟨j, rfl, hj, hrd⟩ := hr
        have HR := hide hrel
        by_cases hjN : j < N
        · obtain ⟨t, ht⟩ : ∃ t, ks[j]? = some t := ⟨_, List.getElem?_eq_getElem (by have := unhide HNk; omega)⟩
          obtain ⟨e1, e2⟩ := hrd t ht
          have HC := hide e2
          have hjI : (j : Int) < (N : Int) := by omega
          clear hrel hrd e2 ht hj
          go_wp2_with (go_at_call 45; refine (unhide HC).mono ?_; rintro e w3 ⟨v2, rfl, v3, w4, hap, HX⟩)
          go_roundw
          case rel => exact unhide HX
          case measure => simp [intOf]; omega
        · obtain rfl : j = N := by have := unhide HNk; omega
          have HE : Hid (LeftE C B tb S n O w u6 wr) := ⟨ks, unhide HN, lv_end (by have := unhide HR; rw [unhide HNk] at this; exact this)⟩
          clear hrel hrd hj HR
          go_wp2_with fail
          go_ret
          exact ⟨_, rfl, unhide HE⟩
end Go.Proofs.Ytnlfmmempomcaaa
