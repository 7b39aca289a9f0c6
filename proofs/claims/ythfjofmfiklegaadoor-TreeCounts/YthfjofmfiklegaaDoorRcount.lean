/- The document's Count, in the code. -/
import Derived.Test.YthfjofmfiklegaaDoorK2
import Derived.Test.YthfjofmfiklegaaDoorK5
namespace Go.Proofs.YthfjofmfiklegaaDoor
open Go.RowKit
mutual
/-- Nodes. -/
def cn : Tr → Nat | .mk _ _ _ _ ks => 1 + cns ks
def cns : List Tr → Nat | [] => 0 | t :: r => cn t + cns r
end
mutual
/-- Bytes of files. -/
def cb : Tr → Nat | .mk k _ d _ ks => (if k = 1 then d.size else 0) + cbs ks
def cbs : List Tr → Nat | [] => 0 | t :: r => cb t + cbs r
end
theorem cns_append (a b : List Tr) : cns (a ++ b) = cns a + cns b := by
  induction a with
  | nil => simp [cns]
  | cons x r ih => simp only [List.cons_append, cns, ih]; omega
theorem cbs_append (a b : List Tr) : cbs (a ++ b) = cbs a + cbs b := by
  induction a with
  | nil => simp [cbs]
  | cons x r ih => simp only [List.cons_append, cbs, ih]; omega
theorem cns_take (l : List Tr) (i : Nat) (h : i < l.length) : cns (l.take (i + 1)) = cns (l.take i) + cn l[i] := by
  rw [List.take_succ_eq_append_getElem h, cns_append]; simp [cns]
theorem cbs_take (l : List Tr) (i : Nat) (h : i < l.length) : cbs (l.take (i + 1)) = cbs (l.take i) + cb l[i] := by
  rw [List.take_succ_eq_append_getElem h, cbs_append]; simp [cbs]
theorem cn_le (T : Tr) : cn T ≤ wt T ∧ cb T ≤ 20 * wt T := by
  induction T using Tr.ind with
  | h k x d ns ks ih =>
    have h2 : ∀ l : List Tr, (∀ t ∈ l, cn t ≤ wt t ∧ cb t ≤ 20 * wt t) → cns l ≤ wts l ∧ cbs l ≤ 20 * wts l := by
      intro l
      induction l with
      | nil => intro _; simp [cns, cbs, wts]
      | cons t r ih2 =>
        intro h
        have h3 := h t (by simp)
        have h4 := ih2 (fun t ht => h t (by simp [ht]))
        rw [cns, cbs, wts]
        omega
    have h3 := h2 ks ih
    rw [cn, cb, wt]
    split <;> omega
theorem cns_le (l : List Tr) : cns l ≤ wts l ∧ cbs l ≤ 20 * wts l := by
  induction l with
  | nil => simp [cns, cbs, wts]
  | cons t r ih => have := cn_le t; rw [cns, cbs, wts]; omega
set_option maxRecDepth 20000 in
set_option maxHeartbeats 2000000 in
theorem rcount_any (T : Tr) : ∀ (lo hi : Nat) (cs : List Value) (w : World), Lies lo hi w T cs → wt T ≤ 100000 → hi ≤ w.heap.size →
    Calls Tryd.prog 32 #[.agg cs.toArray] w fun e w' => e = .returned (.tuple #[.int .i64 ((cn T : Nat) : Int), .int .i64 ((cb T : Nat) : Int)]) ∧ Below w.heap.size w w' := by
  induction T using Tr.ind with
  | h k x d ns ks ih =>
  intro lo hi cs w hL hW hhi
  have hSm := small_of hW
  cases hL with
  | mk _ _ _ _ _ vd vn vk Ks hl hd hn hk hK =>
  obtain ⟨ad, cd, rfl, hcd⟩ := hd.slice
  obtain ⟨an, cn', rfl, hcn⟩ := hn.slice
  obtain ⟨ak, ck, rfl, hck⟩ := hk.slice
  have HE : Hid (cn (.mk k x d ns ks) = 1 + cns ks ∧ cb (.mk k x d ns ks) = (if k = 1 then d.size else 0) + cbs ks) := ⟨by rw [cn], by rw [cb]⟩
  obtain ⟨wA, hwA⟩ : ∃ wA, wA = w.alloc (.cells #[.int .i64 k, .bool x, .slice ad d.size cd, .slice an ns.length cn', .slice ak ks.length ck] 26) := ⟨_, rfl⟩
  have hbA : Below w.heap.size w wA := by rw [hwA]; exact (Below.refl _ _).alloc (Nat.le_refl _) _
  have hsA : wA.heap.size = w.heap.size + 1 := by rw [hwA]; simp
  have hbx : Bx wA w.heap.size (.int .i64 k) (.bool x) (.slice ad d.size cd) (.slice an ns.length cn') (.slice ak ks.length ck) := by rw [hwA]; exact bx_new _ _ _ _ _ _
  have hds := hSm.d
  have hkl := hSm.k
  have hwk : wts ks ≤ 100000 := by rw [wt] at hW; omega
  have HR := hide (And.intro hk (And.intro hl (And.intro hK hwk)))
  have HIH := hide ih
  have HSm := hide hSm
  have HwA := hide hwA
  have H0 := hide (And.intro hbA (And.intro hbx hsA))
  obtain ⟨N, hN⟩ : ∃ N, ks.length = N := ⟨_, rfl⟩
  rw [hN] at hkl hck
  have HN := hide hN
  obtain ⟨c0, c1, c2, c3, c4⟩ := hbx.cells
  clear hk hl hK ih hSm hbA hbx hwA hd hn hW hwk
  obtain ⟨B0, hB0⟩ : ∃ B0 : Nat, B0 = if k = 1 then d.size else 0 := ⟨_, rfl⟩
  have HB0 := hide hB0
  have hB0l : B0 ≤ 1000009 := by rw [hB0]; split <;> omega
  rw [hN] at HwA
  rw [hN]
  go_enter Tryd.func32, Tryd.ntmps32
  by_cases hk1 : k = 1
  case pos =>
    have hB1 : B0 = d.size := by rw [hB0, if_pos hk1]
    subst hk1
    clear hB0
    go_wp2_with fail
    rw [← unhide HwA]
    clear c0 c1 c2 c3 c4
    go_loopw [4, 5, 6] (fun vn vb vi wr => ∃ i : Nat, i ≤ N ∧ vi = .int .i64 (i : Int) ∧ vn = .int .i64 ((1 + cns (ks.take i) : Nat) : Int) ∧ vb = .int .i64 ((B0 + cbs (ks.take i) : Nat) : Int) ∧ Below w.heap.size w wr ∧ Bx wr w.heap.size (.int .i64 1) (.bool x) (.slice ad d.size cd) (.slice an ns.length cn') (.slice ak N ck) ∧ w.heap.size + 1 ≤ wr.heap.size) (fun _ _ vi _ => N - (intOf vi).toNat)
    case atStart => exact ⟨0, by omega, rfl, by simp [cns], by simp [cbs, hB1], (unhide H0).1, by have := (unhide H0).2.1; rw [unhide HN] at this; exact this, by have := (unhide H0).2.2; omega⟩
    case round =>
      obtain ⟨i, hiN, rfl, rfl, rfl, hbr, hbx, hsr⟩ := hrel
      obtain ⟨c0, c1, c2, c3, c4⟩ := hbx.cells
      have hle := cns_le (ks.take i)
      have hle2 := wts_take_le ks i
      have hwk := (unhide HR).2.2.2
      by_cases hlt : i < N
      · have hk1' : i < ks.length := by rw [unhide HN]; exact hlt
        obtain ⟨g', o', rfl, hg1', hg2', hcell'⟩ := (unhide HR).1.at (by omega)
        obtain ⟨q0, q1, f1, g1, h1, f2, g2, h2, f3, g3, h3, hLi, m0, m1, m2, m3, m4⟩ := kid_sl (unhide HR).2.1 (fun j u hj => by rw [hbr.cell (p := ⟨g', o' + j, none⟩) (show g' < w.heap.size by omega)]; exact hcell' j u hj) (fun i t c h1 h2 => ((unhide HR).2.2.1 i t c h1 h2).kept hbr hhi) i hk1'
        have HI := hide (unhide HIH ks[i] (List.getElem_mem hk1') lo hi _ wr hLi ((unhide HSm).t _ (List.getElem_mem hk1')) (by omega))
        have HS1 := hide (And.intro (cns_take ks i hk1') (cbs_take ks i hk1'))
        have hci := cn_le ks[i]
        have hwi := wts_mem (List.getElem_mem hk1')
        have HW := hide (And.intro hbr hbx)
        clear hcell' hLi hbr hbx
        generalize ks[i] = t at *
        clear hk1'
        have hA1 : cns (ks.take i) ≤ 100000 := by omega
        have hA2 : cbs (ks.take i) ≤ 2000000 := by omega
        have hA3 : cn t ≤ 100000 := by omega
        have hA4 : cb t ≤ 2000000 := by omega
        clear hle hle2 hwk hci hwi
        generalize cns (ks.take i) = sn at *
        generalize cbs (ks.take i) = sb at *
        go_wp2_with fail
        refine (unhide HI).mono ?_
        rintro e w5 ⟨rfl, hb5⟩
        have hs5 := hb5.size
        have HW5 := hide (And.intro ((unhide HW).1.trans (hb5.mono (by omega))) ((unhide HW).2.kept hb5 (by omega)))
        generalize cn t = tn at *
        generalize cb t = tb at *
        clear HI hb5
        go_wp2_with fail
        go_roundw
        case rel => exact ⟨i + 1, by omega, by go_num, by rw [(unhide HS1).1]; go_num, by rw [(unhide HS1).2]; go_num, (unhide HW5).1, (unhide HW5).2, by omega⟩
        case measure => simp [intOf]; try omega
      · obtain rfl : i = N := by omega
        have hfull : ks.take i = ks := List.take_of_length_le (by rw [unhide HN]; omega)
        have HEE := unhide HE
        have HFin : Hid (cn (.mk 1 x d ns ks) = 1 + cns (ks.take i) ∧ cb (.mk 1 x d ns ks) = B0 + cbs (ks.take i)) := by rw [hfull]; exact ⟨HEE.1, by rw [HEE.2, unhide HB0]⟩
        have HB := hide hbr
        clear HEE hfull hbr hbx hle hle2 hwk
        generalize cns (ks.take i) = sn at *
        generalize cbs (ks.take i) = sb at *
        go_wp2_with fail
        go_ret2
        exact ⟨by rw [(unhide HFin).1, (unhide HFin).2]; first | rfl | simp, unhide HB⟩
  case neg =>
    have hB1 : B0 = 0 := by rw [hB0, if_neg hk1]
    have e2 : (k == 1) = false := by simpa using hk1
    clear hB0 hk1
    go_wp2_with fail
    rw [← unhide HwA]
    clear c0 c1 c2 c3 c4
    go_loopw [4, 5, 6] (fun vn vb vi wr => ∃ i : Nat, i ≤ N ∧ vi = .int .i64 (i : Int) ∧ vn = .int .i64 ((1 + cns (ks.take i) : Nat) : Int) ∧ vb = .int .i64 ((B0 + cbs (ks.take i) : Nat) : Int) ∧ Below w.heap.size w wr ∧ Bx wr w.heap.size (.int .i64 k) (.bool x) (.slice ad d.size cd) (.slice an ns.length cn') (.slice ak N ck) ∧ w.heap.size + 1 ≤ wr.heap.size) (fun _ _ vi _ => N - (intOf vi).toNat)
    case atStart => exact ⟨0, by omega, rfl, by simp [cns], by simp [cbs, hB1], (unhide H0).1, by have := (unhide H0).2.1; rw [unhide HN] at this; exact this, by have := (unhide H0).2.2; omega⟩
    case round =>
      obtain ⟨i, hiN, rfl, rfl, rfl, hbr, hbx, hsr⟩ := hrel
      obtain ⟨c0, c1, c2, c3, c4⟩ := hbx.cells
      have hle := cns_le (ks.take i)
      have hle2 := wts_take_le ks i
      have hwk := (unhide HR).2.2.2
      by_cases hlt : i < N
      · have hk1' : i < ks.length := by rw [unhide HN]; exact hlt
        obtain ⟨g', o', rfl, hg1', hg2', hcell'⟩ := (unhide HR).1.at (by omega)
        obtain ⟨q0, q1, f1, g1, h1, f2, g2, h2, f3, g3, h3, hLi, m0, m1, m2, m3, m4⟩ := kid_sl (unhide HR).2.1 (fun j u hj => by rw [hbr.cell (p := ⟨g', o' + j, none⟩) (show g' < w.heap.size by omega)]; exact hcell' j u hj) (fun i t c h1 h2 => ((unhide HR).2.2.1 i t c h1 h2).kept hbr hhi) i hk1'
        have HI := hide (unhide HIH ks[i] (List.getElem_mem hk1') lo hi _ wr hLi ((unhide HSm).t _ (List.getElem_mem hk1')) (by omega))
        have HS1 := hide (And.intro (cns_take ks i hk1') (cbs_take ks i hk1'))
        have hci := cn_le ks[i]
        have hwi := wts_mem (List.getElem_mem hk1')
        have HW := hide (And.intro hbr hbx)
        clear hcell' hLi hbr hbx
        generalize ks[i] = t at *
        clear hk1'
        have hA1 : cns (ks.take i) ≤ 100000 := by omega
        have hA2 : cbs (ks.take i) ≤ 2000000 := by omega
        have hA3 : cn t ≤ 100000 := by omega
        have hA4 : cb t ≤ 2000000 := by omega
        clear hle hle2 hwk hci hwi
        generalize cns (ks.take i) = sn at *
        generalize cbs (ks.take i) = sb at *
        go_wp2_with fail
        refine (unhide HI).mono ?_
        rintro e w5 ⟨rfl, hb5⟩
        have hs5 := hb5.size
        have HW5 := hide (And.intro ((unhide HW).1.trans (hb5.mono (by omega))) ((unhide HW).2.kept hb5 (by omega)))
        generalize cn t = tn at *
        generalize cb t = tb at *
        clear HI hb5
        go_wp2_with fail
        go_roundw
        case rel => exact ⟨i + 1, by omega, by go_num, by rw [(unhide HS1).1]; go_num, by rw [(unhide HS1).2]; go_num, (unhide HW5).1, (unhide HW5).2, by omega⟩
        case measure => simp [intOf]; try omega
      · obtain rfl : i = N := by omega
        have hfull : ks.take i = ks := List.take_of_length_le (by rw [unhide HN]; omega)
        have HEE := unhide HE
        have HFin : Hid (cn (.mk k x d ns ks) = 1 + cns (ks.take i) ∧ cb (.mk k x d ns ks) = B0 + cbs (ks.take i)) := by rw [hfull]; exact ⟨HEE.1, by rw [HEE.2, unhide HB0]⟩
        have HB := hide hbr
        clear HEE hfull hbr hbx hle hle2 hwk
        generalize cns (ks.take i) = sn at *
        generalize cbs (ks.take i) = sb at *
        go_wp2_with fail
        go_ret2
        exact ⟨by rw [(unhide HFin).1, (unhide HFin).2]; first | rfl | simp, unhide HB⟩
end Go.Proofs.YthfjofmfiklegaaDoor
