/- Check, in the code: every node and all below. -/
import Derived.Test.YthfjofmfiklegaaDoorNd
import Derived.Test.YthfjofmfiklegaaDoorBd
namespace Go.Proofs.YthfjofmfiklegaaDoor
open Go.RowKit
set_option maxRecDepth 20000 in
set_option maxHeartbeats 1000000 in
theorem chkC_any (T : Tr) : ∀ (lo hi : Nat) (cs : List Value) (w : World) (c deep n : Nat), Lies lo hi w T cs → wt T ≤ 100000 → Ctr w c (.int .i64 (n : Int)) → hi ≤ c → n ≤ 65536 → deep ≤ 65 →
    Calls Tryd.prog 29 #[.agg cs.toArray, .int .i64 (deep : Int), .pointer (some ⟨c, 0, none⟩)] w fun e w' => e = .returned (.int .i64 (((chk T deep n).1 : Nat) : Int)) ∧ Sole c w w' ∧ Ctr w' c (.int .i64 (((chk T deep n).2 : Nat) : Int)) := by
  induction T using Tr.ind with
  | h k x d ns ks ih =>
  intro lo hi cs w c deep n hL hW hC hhi hn0 hd0
  have hSm := small_of hW
  cases hL with
  | mk _ _ _ _ _ vd vn vk Ks hl hd hn hk hK =>
  obtain ⟨ad, cd, rfl, hcd⟩ := hd.slice
  obtain ⟨an, cn, rfl, hcn⟩ := hn.slice
  obtain ⟨ak, ck, rfl, hck⟩ := hk.slice
  have hcl := hC.lt
  obtain ⟨z, hz⟩ : ∃ z : Int, z = (n : Int) := ⟨_, rfl⟩
  rw [← hz] at hC
  have HC := hide hC
  have hkl := hSm.k
  obtain ⟨hcc, hcf⟩ := hC
  have hS0 : Sole c w ((w.setCell ⟨c, 0, none⟩ (.int .i64 (z + 1))).alloc (.cells #[.int .i64 k, .bool x, .slice ad d.size cd, .slice an ns.length cn, .slice ak ks.length ck] 26)) := (((Sole.refl c w).setCell 0 _).alloc _)
  have hB0 : Bx ((w.setCell ⟨c, 0, none⟩ (.int .i64 (z + 1))).alloc (.cells #[.int .i64 k, .bool x, .slice ad d.size cd, .slice an ns.length cn, .slice ak ks.length ck] 26)) w.heap.size (.int .i64 k) (.bool x) (.slice ad d.size cd) (.slice an ns.length cn) (.slice ak ks.length ck) := bx_new' _ _ _ _ _ _ _ _
  have hC0 : Ctr ((w.setCell ⟨c, 0, none⟩ (.int .i64 (z + 1))).alloc (.cells #[.int .i64 k, .bool x, .slice ad d.size cd, .slice an ns.length cn, .slice ak ks.length ck] 26)) c (.int .i64 (z + 1)) :=
    ((unhide HC).set (.int .i64 (z + 1))).below ((Below.refl w.heap.size _).alloc (by simp) (.cells #[.int .i64 k, .bool x, .slice ad d.size cd, .slice an ns.length cn, .slice ak ks.length ck] 26)) hcl
  have H0 := hide (And.intro hS0 (And.intro hB0 hC0))
  clear hS0 hB0 hC0
  obtain ⟨E, M, hEM⟩ : ∃ E M, chk (.mk k x d ns ks) deep n = (E, M) := ⟨_, _, rfl⟩
  rw [hEM]
  simp only
  have HEM := hide hEM
  clear hEM
  have hn1 : z ≤ 1000000 := by omega
  have hn2 : 0 ≤ z := by omega
  have HZ : Hid (((n + 1 : Nat) : Int) = z + 1) := by show ((n + 1 : Nat) : Int) = z + 1; omega
  have hd1 : (deep : Int) ≤ 1000 := by omega
  have hkl1 : (ks.length : Int) ≤ 1000000 := by omega
  by_cases hbig : 65536 < n + 1 ∨ 64 < deep
  · have HE : (5, n + 1) = (E, M) := by rw [← unhide HEM, chk, if_pos hbig]
    obtain ⟨rfl, rfl⟩ := Prod.mk.inj HE
    clear HE HEM
    clear hd hn hk hK hl ih hSm hW
    have hbig' : (65536 : Int) < z + 1 ∨ (64 : Int) < (deep : Int) := by omega
    clear hbig
    rw [unhide HZ]
    clear hn0 hd0 hkl hz HZ
    rcases hbig' with hbig | hbig
    all_goals
      go_enter Tryd.func29, Tryd.ntmps29
      go_wp2_with fail
      all_goals go_ret
      all_goals exact ⟨rfl, (unhide H0).1, (unhide H0).2.2⟩
  have hbig1 : ¬ (65536 : Int) < z + 1 := by omega
  have HNb : Hid (n + 1 ≤ 65536) := by show n + 1 ≤ 65536; omega
  have hbig2 : ¬ (64 : Int) < (deep : Int) := by omega
  have HE : Hid ((E, M) = if locErr k x d.size ns ks.length = 0 then chks ks (deep + 1) (n + 1) else (locErr k x d.size ns ks.length, n + 1)) := by show (E, M) = _; rw [← unhide HEM, chk, if_neg hbig]
  clear HEM
  have HN := hide (fun w (h : Row lo hi w (.slice an ns.length cn) ns.length (ns.map .string)) (hw : hi ≤ w.heap.size) => node_any lo hi k x d.size ns ad an ak ks.length cd cn ck w (by have := hSm.d; omega) (by have := hSm.n; omega) (by have := hSm.k; omega) (fun s hs => by have := hSm.s s hs; omega) h hw)
  have HT := hide hSm.t
  have HR := hide (And.intro hn (And.intro hk (And.intro hl hK)))
  have HN0 := hide hn0
  have HD0 := hide (show deep ≤ 64 by omega)
  clear hd hn hk hK hl hSm hW hbig hn0 hd0 hkl hz
  go_enter Tryd.func29, Tryd.ntmps29
  go_wp2_with fail
  obtain ⟨hS0, hB0, hC0⟩ := unhide H0
  clear H0 hcc hcf HC
  generalize (w.setCell ⟨c, 0, none⟩ (.int .i64 (z + 1))).alloc (.cells #[.int .i64 k, .bool x, .slice ad d.size cd, .slice an ns.length cn, .slice ak ks.length ck] 26) = w1 at *
  rw [← unhide HZ] at hC0
  have hz1 := hS0.size
  refine (unhide HN _ ((unhide HR).1.below (hS0.below hhi (by omega)) (Nat.le_refl _)) (by omega)).mono ?_
  rintro e w2 ⟨rfl, hb2⟩
  have hS2 : Sole c w w2 := hS0.trans (Sole.of_below hb2)
  have hB2 := hB0.kept hb2 hB0.lt
  have hC2 := hC0.below hb2 hC0.lt
  clear HN hb2 hS0 hB0 hC0
  by_cases hloc : locErr k x d.size ns ks.length = 0
  case neg =>
    have hne : (((locErr k x d.size ns ks.length : Nat) : Int) == 0) = false := by rw [beq_eq_false_iff_ne]; omega
    have HE' := unhide HE
    rw [if_neg hloc] at HE'
    obtain ⟨rfl, rfl⟩ := Prod.mk.inj HE'
    clear hloc HE HE'
    go_wp2_with fail
    go_ret
    exact ⟨rfl, hS2, hC2⟩
  have HE' : Hid (chks ks (deep + 1) (n + 1) = (E, M)) := by show _ = (E, M); rw [unhide HE, if_pos hloc]
  rw [hloc]
  clear HE hloc
  obtain ⟨c0, c1, c2, c3, c4⟩ := hB2.cells
  go_wp2_with fail
  clear c0 c1 c2 c3 c4
  go_loopw [32] (fun vi wr => ∃ i m : Nat, i ≤ ks.length ∧ vi = .int .i64 (i : Int) ∧ Sole c w wr ∧ Ctr wr c (.int .i64 (m : Int)) ∧ Hid (m ≤ 65536) ∧ Hid (chks (ks.drop i) (deep + 1) m = (E, M))) (fun vi _ => ks.length - (intOf vi).toNat)
  case atStart => exact ⟨0, n + 1, by omega, rfl, hS2, hC2, HNb, HE'⟩
  case round =>
    obtain ⟨i, m, hik, rfl, hS, hC, hm, hq⟩ := hrel
    by_cases hlt : i < ks.length
    · obtain ⟨g, o, rfl, hg1, hg2, hcell⟩ := (unhide HR).2.1.at (by omega)
      obtain ⟨hl, hK⟩ := (unhide HR).2.2
      have hbel := hS.below (base := hi) hhi (by omega)
      have hcell' : ∀ j u, Ks.flatten[j]? = some u → wr.cell? ⟨g, o + j, none⟩ = some u := fun j u hj => by rw [hbel.cell (p := ⟨g, o + j, none⟩) hg2]; exact hcell j u hj
      obtain ⟨k', x', a1, n1, c1, a2, n2, c2, a3, n3, c3, hLi, z0, z1, z2, z3, z4⟩ := kid_sl hl hcell' (fun i t c h1 h2 => (hK i t c h1 h2).kept hbel (Nat.le_refl _)) i hlt
      have hzr := hS.size
      have HI := hide (fun w' (h : Lies lo hi w' ks[i] [.int .i64 k', .bool x', Value.slice a1 n1 c1, Value.slice a2 n2 c2, Value.slice a3 n3 c3]) (hc : Ctr w' c (.int .i64 (m : Int))) => ih ks[i] (List.getElem_mem hlt) lo hi _ w' c (deep + 1) m h (unhide HT _ (List.getElem_mem hlt)) hc hhi (unhide hm) (by have := unhide HD0; omega))
      have HLi := hide hLi
      have HQ := hide (chks_step ks i (deep + 1) m hlt)
      have HM := hide (chk_ok ks[i] (deep + 1) m)
      have HCr := hide hC
      clear hcell hcell' hl hK hLi hC
      generalize ks[i] = t at *
      go_wp2_with fail
      have hbr : Below wr.heap.size wr (wr.alloc (.cells #[.int .i64 k', .bool x', Value.slice a1 n1 c1, Value.slice a2 n2 c2, Value.slice a3 n3 c3] 26)) := (Below.refl _ _).alloc (Nat.le_refl _) _
      refine (unhide HI _ ((unhide HLi).kept hbr (by omega)) ((unhide HCr).below hbr (by omega))).mono ?_
      rintro e w3 ⟨rfl, hS3, hC3⟩
      have hS4 : Sole c w w3 := (hS.alloc _).trans hS3
      clear hS3 hbr HI HLi HCr z0 z1 z2 z3 z4
      by_cases he : (chk t (deep + 1) m).1 = 0
      · have hq' : Hid (chks (ks.drop (i + 1)) (deep + 1) (chk t (deep + 1) m).2 = (E, M)) := by
          have h := unhide HQ
          rw [if_pos he, unhide hq] at h
          exact h.symm
        have hm' : Hid ((chk t (deep + 1) m).2 ≤ 65536) := unhide HM he
        rw [he]
        clear HQ HM he hq hm
        generalize (chk t (deep + 1) m).2 = m' at *
        have HS4 := hide (And.intro hS4 hC3)
        clear hC3 hS4
        go_wp2_with fail
        go_roundw
        case rel => exact ⟨i + 1, m', by omega, by go_num, (unhide HS4).1, (unhide HS4).2, hm', hq'⟩
        case measure => simp [intOf]; omega
      · have h := unhide HQ
        rw [if_neg he, unhide hq] at h
        have hne : ((((chk t (deep + 1) m).1 : Nat) : Int) == 0) = false := by rw [beq_eq_false_iff_ne]; omega
        rw [← h] at hC3 hne ⊢
        clear HQ HM he hq hm h
        go_wp2_with fail
        go_ret
        exact ⟨rfl, hS4, hC3⟩
    · obtain rfl : i = ks.length := by omega
      have HF := unhide hq
      rw [chks_end] at HF
      obtain ⟨rfl, rfl⟩ := Prod.mk.inj HF
      clear HF hq HE'
      go_wp2_with fail
      go_ret
      exact ⟨rfl, hS, hC⟩
end Go.Proofs.YthfjofmfiklegaaDoor
