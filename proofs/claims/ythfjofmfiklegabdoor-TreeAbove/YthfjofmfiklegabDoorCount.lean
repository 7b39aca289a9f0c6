/- count and Count, in the code. -/
import Derived.Test.YthfjofmfiklegabDoorRcounts
import Derived.Deep.RegionHeld3
namespace Go.Proofs.YthfjofmfiklegabDoor
open Go.RowKit
/-- Of what was there only two blocks have changed. -/
structure Two (c c' : Nat) (a b : World) : Prop where
  os : b.os = a.os
  tape : b.tape = a.tape
  output : b.output = a.output
  size : a.heap.size ≤ b.heap.size
  block : ∀ k, k < a.heap.size → k ≠ c → k ≠ c' → b.heap[k]? = a.heap[k]?
theorem Two.refl (c c' : Nat) (w : World) : Two c c' w w := ⟨rfl, rfl, rfl, Nat.le_refl _, fun _ _ _ _ => rfl⟩
theorem Two.trans {c c' : Nat} {a b d : World} (h : Two c c' a b) (k : Two c c' b d) : Two c c' a d :=
  ⟨k.os.trans h.os, k.tape.trans h.tape, k.output.trans h.output, Nat.le_trans h.size k.size, fun i hi h1 h2 => (k.block i (Nat.lt_of_lt_of_le hi h.size) h1 h2).trans (h.block i hi h1 h2)⟩
theorem Two.of_below {c c' : Nat} {a b : World} (h : Below a.heap.size a b) : Two c c' a b := ⟨h.os, h.tape, h.output, h.size, fun k hk _ _ => h.block k hk⟩
theorem Two.set1 {c c' : Nat} {a b : World} (h : Two c c' a b) (v : Value) : Two c c' a (b.setCell ⟨c, 0, none⟩ v) := h.trans ⟨rfl, rfl, rfl, by simp, fun k _ h1 _ => set_other _ _ _ _ _ h1⟩
theorem Two.set2 {c c' : Nat} {a b : World} (h : Two c c' a b) (v : Value) : Two c c' a (b.setCell ⟨c', 0, none⟩ v) := h.trans ⟨rfl, rfl, rfl, by simp, fun k _ _ h2 => set_other _ _ _ _ _ h2⟩
theorem Two.below {c c' B : Nat} {a b : World} (h : Two c c' a b) (h1 : B ≤ c) (h2 : B ≤ c') (h3 : B ≤ a.heap.size) : Below B a b := ⟨h.os, h.tape, h.output, h.size, fun k hk => h.block k (by omega) (by omega) (by omega)⟩
theorem Two.drew {c c' : Nat} {a b : World} (h : Two c c' a b) : Two c c' a b.drew := ⟨h.os, h.tape, h.output, h.size, h.block⟩
theorem ctr_of {w w' : World} {c : Nat} {v : Value} (h : Ctr w c v) (e : w'.heap[c]? = w.heap[c]?) : Ctr w' c v :=
  ⟨by rw [World.cell?_of_block (w := w) e]; exact h.cell, by have := h.fr; unfold World.frozen? at this ⊢; rw [show w'.heap[(⟨c, 0, none⟩ : Addr).block]? = w.heap[(⟨c, 0, none⟩ : Addr).block]? from e]; exact this⟩
/-- What count leaves. -/
structure Cw (w wr : World) (c c' : Nat) (n b : Nat) : Prop where
  t : Two c c' w wr
  c1 : Ctr wr c (.int .i64 (n : Int))
  c2 : Ctr wr c' (.int .i64 (b : Int))
theorem Cw.kept {w wr w' : World} {c c' n b : Nat} (h : Cw w wr c c' n b) (hb : Below wr.heap.size wr w') : Cw w w' c c' n b :=
  ⟨h.t.trans (Two.of_below hb), h.c1.below hb h.c1.lt, h.c2.below hb h.c2.lt⟩
set_option maxRecDepth 20000 in
set_option maxHeartbeats 2000000 in
theorem count_any (T : Tr) : ∀ (lo hi : Nat) (cs : List Value) (w : World) (c c' n b : Nat), Lies lo hi w T cs → hi ≤ c → hi ≤ c' → c ≠ c' → Ctr w c (.int .i64 (n : Int)) → Ctr w c' (.int .i64 (b : Int)) → wt T ≤ 100000 → n + wt T ≤ 1000000 → b + 20 * wt T ≤ 100000000 →
    Calls Tryd.prog 17 #[.agg cs.toArray, .pointer (some ⟨c, 0, none⟩), .pointer (some ⟨c', 0, none⟩)] w fun e w' => e = .returned (.tuple #[]) ∧ Cw w w' c c' (n + cn T) (b + cb T) := by
  induction T using Tr.ind with
  | h k x d ns ks ih =>
  intro lo hi cs w c c' n b hL hhc hhc' hcc hC1 hC2 hW hn0 hb0
  have hSm := small_of hW
  cases hL with
  | mk _ _ _ _ _ vd vn vk Ks hl hd hn hk hK =>
  obtain ⟨ad, cd, rfl, hcd⟩ := hd.slice
  obtain ⟨an, cn', rfl, hcn⟩ := hn.slice
  obtain ⟨ak, ck, rfl, hck⟩ := hk.slice
  have HE : Hid (cn (.mk k x d ns ks) = 1 + cns ks ∧ cb (.mk k x d ns ks) = (if k = 1 then d.size else 0) + cbs ks) := ⟨by rw [cn], by rw [cb]⟩
  have hcl1 := hC1.lt
  have hcl2 := hC2.lt
  have hds := hSm.d
  have hkl := hSm.k
  have hwk : wts ks ≤ 100000 := by rw [wt] at hW; omega
  have hn1 : n + 1 + wts ks ≤ 1000000 := by rw [wt] at hn0; omega
  have hb1 : b + d.size + 20 * wts ks ≤ 100000000 := by rw [wt] at hb0; omega
  have HR := hide (And.intro hk (And.intro hl (And.intro hK (And.intro hwk (And.intro hn1 hb1)))))
  have HIH := hide ih
  have HSm := hide hSm
  have HC := hide (And.intro hC1 hC2)
  have z1 := hC1.cell
  have z1f := hC1.fr
  have z2 := hC2.cell
  have z2f := hC2.fr
  obtain ⟨N, hN⟩ : ∃ N, ks.length = N := ⟨_, rfl⟩
  have HN := hide hN
  rw [hN] at hkl hck
  rw [hN]
  have hnb : n ≤ 1000000 := by omega
  have hbb : b ≤ 100000000 := by omega
  clear hk hl hK ih hSm hd hn hW hwk hn1 hb1 hn0 hb0 hC1 hC2 hN
  go_enter Tryd.func17, Tryd.ntmps17
  by_cases hk1 : k = 1
  case pos =>
    subst hk1
    go_wp2_with fail
    go_region
    go_wp2_with fail
    obtain ⟨B0, hB0⟩ : ∃ B0 : Nat, B0 = b + d.size := ⟨_, rfl⟩
    have HB0 : Hid (b + cb (.mk 1 x d ns ks) = B0 + cbs ks) := by show _ = _; rw [(unhide HE).2, hB0]; simp; omega
    have hB1 : B0 ≤ b + d.size := by omega
    clear z1 z1f z2 z2f
    go_loopw [27] (fun vi wr => ∃ i : Nat, i ≤ N ∧ vi = .int .i64 (i : Int) ∧ Cw w wr c c' (n + 1 + cns (ks.take i)) (B0 + cbs (ks.take i))) (fun vi _ => N - (intOf vi).toNat)
    case atStart =>
      refine ⟨0, by omega, rfl, ?_⟩
      rw [List.take_zero, cns, cbs, Nat.add_zero, Nat.add_zero]
      have hc1 := ((unhide HC).1.set (.int .i64 ((n : Int) + 1)))
      have hc2 : Ctr (w.setCell ⟨c, 0, none⟩ (.int .i64 ((n : Int) + 1))) c' (.int .i64 (b : Int)) := ctr_of (unhide HC).2 (set_other _ _ _ _ _ (fun e => hcc e.symm))
      have hc1' := ctr_of hc1 (set_other (w.setCell ⟨c, 0, none⟩ (.int .i64 ((n : Int) + 1))) c' 0 c (.int .i64 ((b : Int) + (d.size : Int))) hcc)
      have hc2' := hc2.set (.int .i64 ((b : Int) + (d.size : Int)))
      rw [show (n : Int) + 1 = ((n + 1 : Nat) : Int) by omega, show (b : Int) + (d.size : Int) = ((B0 : Nat) : Int) by omega] at hc1' hc2' ⊢
      have hk0 : Cw w ((w.setCell ⟨c, 0, none⟩ (.int .i64 ((n + 1 : Nat) : Int))).setCell ⟨c', 0, none⟩ (.int .i64 ((B0 : Nat) : Int))) c c' (n + 1) B0 := ⟨((Two.refl c c' w).set1 _).set2 _, hc1', hc2'⟩
      exact hk0.kept (((Below.refl _ _).alloc (Nat.le_refl _) _).drew)
    case round =>
      obtain ⟨i, hiN, rfl, hW⟩ := hrel
      have hle := cns_le (ks.take i)
      have hle2 := wts_take_le ks i
      obtain ⟨-, -, -, hwk, hn1, hb1⟩ := unhide HR
      by_cases hlt : i < N
      · have hk1' : i < ks.length := by rw [unhide HN]; exact hlt
        have hbr := hW.t.below hhc hhc' (show hi ≤ w.heap.size by omega)
        obtain ⟨g', o', rfl, hg1', hg2', hcell'⟩ := (unhide HR).1.at (by omega)
        obtain ⟨q0, q1, f1, g1, h1, f2, g2, h2, f3, g3, h3, hLi, m0, m1, m2, m3, m4⟩ := kid_sl (unhide HR).2.1 (fun j u hj => by rw [hbr.cell (p := ⟨g', o' + j, none⟩) (show g' < hi by omega)]; exact hcell' j u hj) (fun i t c h1 h2 => ((unhide HR).2.2.1 i t c h1 h2).kept hbr (Nat.le_refl _)) i hk1'
        have hsr := hW.t.size
        have hbk : Below wr.heap.size wr (wr.alloc (.cells #[.int .i64 q0, .bool q1, .slice f1 g1 h1, .slice f2 g2 h2, .slice f3 g3 h3] 26)) := (Below.refl _ _).alloc (Nat.le_refl _) _
        have hWk := hW.kept hbk
        have e1 := cns_take ks i hk1'
        have e2' := cbs_take ks i hk1'
        have e3 := wts_take ks i hk1'
        have e4 := wts_take_le ks (i + 1)
        have HI := hide (unhide HIH ks[i] (List.getElem_mem hk1') lo hi _ _ c c' _ _ (hLi.kept hbk (by omega)) hhc hhc' hcc hWk.c1 hWk.c2 ((unhide HSm).t _ (List.getElem_mem hk1')) (by omega) (by omega))
        have HS1 : Hid (n + 1 + cns (ks.take (i + 1)) = n + 1 + cns (ks.take i) + cn ks[i] ∧ B0 + cbs (ks.take (i + 1)) = B0 + cbs (ks.take i) + cb ks[i]) := ⟨by omega, by omega⟩
        have HT := hide hWk.t
        have hgw : g' < wr.heap.size := by omega
        clear hcell' hLi hbr hW hWk hbk e1 e2' e3 e4 hle hle2 hwk hn1 hb1
        generalize ks[i] = t at *
        clear hk1'
        go_wp2_with fail
        refine (unhide HI).mono ?_
        rintro e w5 ⟨rfl, hW5⟩
        have HW5 : Hid (Cw w w5 c c' (n + 1 + cns (ks.take (i + 1))) (B0 + cbs (ks.take (i + 1)))) := by
          show Cw _ _ _ _ _ _
          rw [(unhide HS1).1, (unhide HS1).2]
          exact ⟨(unhide HT).trans hW5.t, hW5.c1, hW5.c2⟩
        clear HI hW5
        go_wp2_with fail
        go_roundw
        case rel => exact ⟨i + 1, by omega, by go_num, unhide HW5⟩
        case measure => simp [intOf]; try omega
      · obtain rfl : i = N := by omega
        have hfull : ks.take i = ks := List.take_of_length_le (by rw [unhide HN]; omega)
        rw [hfull] at hW
        have HW : Hid (Cw w wr c c' (n + cn (.mk 1 x d ns ks)) (b + cb (.mk 1 x d ns ks))) := by
          show Cw _ _ _ _ _ _
          rw [(unhide HE).1, unhide HB0, ← Nat.add_assoc]
          exact hW
        clear hW hfull hle hle2 hwk hn1 hb1
        go_wp2_with fail
        refine bodyPost_end (v := .tuple #[]) (by simp [results, Tryd.results17, go_sem]) rfl ⟨rfl, unhide HW⟩
  case neg =>
    have e2 : (k == 1) = false := by simpa using hk1
    obtain ⟨B0, hB0⟩ : ∃ B0 : Nat, B0 = b := ⟨_, rfl⟩
    have HB0 : Hid (b + cb (.mk k x d ns ks) = B0 + cbs ks) := by show _ = _; rw [(unhide HE).2, if_neg hk1, hB0, Nat.zero_add]
    have hB1 : B0 ≤ b + d.size := by omega
    have HBb := hide hB0
    clear hk1 hB0
    go_wp2_with fail
    clear z1 z1f z2 z2f
    go_loopw [27] (fun vi wr => ∃ i : Nat, i ≤ N ∧ vi = .int .i64 (i : Int) ∧ Cw w wr c c' (n + 1 + cns (ks.take i)) (B0 + cbs (ks.take i))) (fun vi _ => N - (intOf vi).toNat)
    case atStart =>
      refine ⟨0, by omega, rfl, ?_⟩
      rw [List.take_zero, cns, cbs, Nat.add_zero, Nat.add_zero]
      have hc1 := ((unhide HC).1.set (.int .i64 ((n : Int) + 1)))
      have hc2 : Ctr (w.setCell ⟨c, 0, none⟩ (.int .i64 ((n : Int) + 1))) c' (.int .i64 (b : Int)) := ctr_of (unhide HC).2 (set_other _ _ _ _ _ (fun e => hcc e.symm))
      rw [show (n : Int) + 1 = ((n + 1 : Nat) : Int) by omega] at hc1 hc2 ⊢
      rw [unhide HBb]
      have hk0 : Cw w (w.setCell ⟨c, 0, none⟩ (.int .i64 ((n + 1 : Nat) : Int))) c c' (n + 1) b := ⟨(Two.refl c c' w).set1 _, hc1, hc2⟩
      exact hk0.kept ((Below.refl _ _).alloc (Nat.le_refl _) _)
    case round =>
      obtain ⟨i, hiN, rfl, hW⟩ := hrel
      have hle := cns_le (ks.take i)
      have hle2 := wts_take_le ks i
      obtain ⟨-, -, -, hwk, hn1, hb1⟩ := unhide HR
      by_cases hlt : i < N
      · have hk1' : i < ks.length := by rw [unhide HN]; exact hlt
        have hbr := hW.t.below hhc hhc' (show hi ≤ w.heap.size by omega)
        obtain ⟨g', o', rfl, hg1', hg2', hcell'⟩ := (unhide HR).1.at (by omega)
        obtain ⟨q0, q1, f1, g1, h1, f2, g2, h2, f3, g3, h3, hLi, m0, m1, m2, m3, m4⟩ := kid_sl (unhide HR).2.1 (fun j u hj => by rw [hbr.cell (p := ⟨g', o' + j, none⟩) (show g' < hi by omega)]; exact hcell' j u hj) (fun i t c h1 h2 => ((unhide HR).2.2.1 i t c h1 h2).kept hbr (Nat.le_refl _)) i hk1'
        have hsr := hW.t.size
        have hbk : Below wr.heap.size wr (wr.alloc (.cells #[.int .i64 q0, .bool q1, .slice f1 g1 h1, .slice f2 g2 h2, .slice f3 g3 h3] 26)) := (Below.refl _ _).alloc (Nat.le_refl _) _
        have hWk := hW.kept hbk
        have e1 := cns_take ks i hk1'
        have e2' := cbs_take ks i hk1'
        have e3 := wts_take ks i hk1'
        have e4 := wts_take_le ks (i + 1)
        have HI := hide (unhide HIH ks[i] (List.getElem_mem hk1') lo hi _ _ c c' _ _ (hLi.kept hbk (by omega)) hhc hhc' hcc hWk.c1 hWk.c2 ((unhide HSm).t _ (List.getElem_mem hk1')) (by omega) (by omega))
        have HS1 : Hid (n + 1 + cns (ks.take (i + 1)) = n + 1 + cns (ks.take i) + cn ks[i] ∧ B0 + cbs (ks.take (i + 1)) = B0 + cbs (ks.take i) + cb ks[i]) := ⟨by omega, by omega⟩
        have HT := hide hWk.t
        have hgw : g' < wr.heap.size := by omega
        clear hcell' hLi hbr hW hWk hbk e1 e2' e3 e4 hle hle2 hwk hn1 hb1
        generalize ks[i] = t at *
        clear hk1'
        go_wp2_with fail
        refine (unhide HI).mono ?_
        rintro e w5 ⟨rfl, hW5⟩
        have HW5 : Hid (Cw w w5 c c' (n + 1 + cns (ks.take (i + 1))) (B0 + cbs (ks.take (i + 1)))) := by
          show Cw _ _ _ _ _ _
          rw [(unhide HS1).1, (unhide HS1).2]
          exact ⟨(unhide HT).trans hW5.t, hW5.c1, hW5.c2⟩
        clear HI hW5
        go_wp2_with fail
        go_roundw
        case rel => exact ⟨i + 1, by omega, by go_num, unhide HW5⟩
        case measure => simp [intOf]; try omega
      · obtain rfl : i = N := by omega
        have hfull : ks.take i = ks := List.take_of_length_le (by rw [unhide HN]; omega)
        rw [hfull] at hW
        have HW : Hid (Cw w wr c c' (n + cn (.mk k x d ns ks)) (b + cb (.mk k x d ns ks))) := by
          show Cw _ _ _ _ _ _
          rw [(unhide HE).1, unhide HB0, ← Nat.add_assoc]
          exact hW
        clear hW hfull hle hle2 hwk hn1 hb1
        go_wp2_with fail
        refine bodyPost_end (v := .tuple #[]) (by simp [results, Tryd.results17, go_sem]) rfl ⟨rfl, unhide HW⟩
end Go.Proofs.YthfjofmfiklegabDoor
