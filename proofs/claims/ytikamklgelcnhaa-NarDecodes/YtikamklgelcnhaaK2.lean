import Derived.Test.YtikamklgelcnhaaK1
import Derived.Lib.AppendStr
import Derived.BigQuiet
import Derived.Laws.Bits64b
/- Check, in the document's own answer: a directory and all below. -/
namespace Go.Proofs.Ytikamklgelcnhaa
open Go.RowKit
set_option maxRecDepth 20000 in
set_option maxHeartbeats 1000000 in
theorem chkR_any (T : Tr) : ∀ (lo hi : Nat) (cs : List Value) (w : World) (c deep n : Nat), Lies lo hi w T cs → wt T ≤ 100000 → Ctr w c (.int .i64 (n : Int)) → hi ≤ c → n ≤ 65536 → deep ≤ 65 →
    Calls Try.prog 46 #[.agg cs.toArray, .int .i64 (deep : Int), .pointer (some ⟨c, 0, none⟩)] w fun e w' => e = .returned (.int .i64 (((chk T deep n).1 : Nat) : Int)) ∧ Sole c w w' ∧ Ctr w' c (.int .i64 (((chk T deep n).2 : Nat) : Int)) := by
  induction T using Tr.ind with
  | h k x d ns ks ih =>
  intro lo hi cs w c deep n hL hW hC hhi hn0 hd0
  by_cases hflat : k ≠ 2 ∨ 65536 < n + 1 ∨ 64 < deep
  · exact chkR_flat k x d ns ks lo hi cs w c deep n hL hW hC hhi hn0 hd0 hflat
  obtain rfl : k = 2 := by
    by_cases h : k = 2
    · exact h
    · exact absurd (.inl h) hflat
  have hbig : ¬ (65536 < n + 1 ∨ 64 < deep) := fun h => hflat (.inr h)
  clear hflat
  by_cases hodd : (x = true ∨ 0 < d.size ∨ ns.length ≠ ks.length) ∨ ns.length = 0
  · exact chkR_odd x d ns ks lo hi cs w c deep n hL hW hC hhi hn0 hd0 hbig hodd
  have hform : ¬ (x = true ∨ 0 < d.size ∨ ns.length ≠ ks.length) := fun h => hodd (.inl h)
  have hn3 : 0 < ns.length := by
    have : ¬ ns.length = 0 := fun h => hodd (.inr h)
    omega
  clear hodd
  have hSm := small_of hW
  cases hL with
  | mk _ _ _ _ _ vd vn vk Ks hl hd hn hk hK =>
  obtain ⟨ad, cd, rfl, hcd⟩ := hd.slice
  obtain ⟨an, cn, rfl, hcn⟩ := hn.slice
  obtain ⟨ak, ck, rfl, hck⟩ := hk.slice
  have hcl := hC.lt
  obtain ⟨z, hz⟩ : ∃ z : Int, z = (n : Int) := ⟨_, rfl⟩
  rw [← hz] at hC
  have HC := hide hC
  have hkl := hSm.k
  obtain ⟨hcc, hcf⟩ := hC
  have hS0 : Sole c w ((w.setCell ⟨c, 0, none⟩ (.int .i64 (z + 1))).alloc (.cells #[.int .i64 2, .bool x, .slice ad d.size cd, .slice an ns.length cn, .slice ak ks.length ck] 26)) := (((Sole.refl c w).setCell 0 _).alloc _)
  have hB0 : Bx ((w.setCell ⟨c, 0, none⟩ (.int .i64 (z + 1))).alloc (.cells #[.int .i64 2, .bool x, .slice ad d.size cd, .slice an ns.length cn, .slice ak ks.length ck] 26)) w.heap.size (.int .i64 2) (.bool x) (.slice ad d.size cd) (.slice an ns.length cn) (.slice ak ks.length ck) := bx_new' _ _ _ _ _ _ _ _
  have hC0 : Ctr ((w.setCell ⟨c, 0, none⟩ (.int .i64 (z + 1))).alloc (.cells #[.int .i64 2, .bool x, .slice ad d.size cd, .slice an ns.length cn, .slice ak ks.length ck] 26)) c (.int .i64 (z + 1)) :=
    ((unhide HC).set (.int .i64 (z + 1))).below ((Below.refl w.heap.size _).alloc (by simp) (.cells #[.int .i64 2, .bool x, .slice ad d.size cd, .slice an ns.length cn, .slice ak ks.length ck] 26)) hcl
  have H0 := hide (And.intro hS0 (And.intro hB0 hC0))
  have HH : Hid (∀ v0 v1 v2 v3 v4, Sole c w ((w.setCell ⟨c, 0, none⟩ (.int .i64 (z + 1))).alloc (.cells #[v0, v1, v2, v3, v4] 26)) ∧ Ctr ((w.setCell ⟨c, 0, none⟩ (.int .i64 (z + 1))).alloc (.cells #[v0, v1, v2, v3, v4] 26)) c (.int .i64 (z + 1))) := fun v0 v1 v2 v3 v4 =>
    ⟨(((Sole.refl c w).setCell 0 _).alloc _), ((unhide HC).set (.int .i64 (z + 1))).below ((Below.refl w.heap.size _).alloc (by simp) (.cells #[v0, v1, v2, v3, v4] 26)) hcl⟩
  clear hS0 hB0 hC0
  obtain ⟨E, M, hEM⟩ : ∃ E M, chk (.mk 2 x d ns ks) deep n = (E, M) := ⟨_, _, rfl⟩
  rw [hEM]
  simp only
  have HEM := hide hEM
  clear hEM
  have hn1 : z ≤ 1000000 := by omega
  have hn2 : 0 ≤ z := by omega
  have HZ : Hid (((n + 1 : Nat) : Int) = z + 1) := by show ((n + 1 : Nat) : Int) = z + 1; omega
  have hd1 : (deep : Int) ≤ 1000 := by omega
  have hkl1 : (ks.length : Int) ≤ 1000000 := by omega
  have hbig1 : ¬ (65536 : Int) < z + 1 := by omega
  have hbig2 : ¬ (64 : Int) < (deep : Int) := by omega
  have HNb : Hid (n + 1 ≤ 65536) := by show n + 1 ≤ 65536; omega
  have HD0 := hide (show deep ≤ 64 by omega)
  obtain ⟨rfl, hd6, hlen⟩ : x = false ∧ d.size = 0 ∧ ns.length = ks.length := by
    refine ⟨?_, ?_, ?_⟩
    · cases x
      · rfl
      · exact absurd (.inl rfl) hform
    · by_cases h : d.size = 0
      · exact h
      · exact absurd (.inr (.inl (by omega))) hform
    · by_cases h : ns.length = ks.length
      · exact h
      · exact absurd (.inr (.inr h)) hform
  clear hform
  have HY : Hid (okNames ns → chks ks (deep + 1) (n + 1) = (E, M)) := fun hok => by
    rw [← unhide HEM, chk, if_neg hbig, hd6, ← hlen, if_pos (loc_dir_ok hok)]
  have HX : Hid (¬ okNames ns → (9, n + 1) = (E, M)) := fun hok => by
    rw [← unhide HEM, chk, if_neg hbig, hd6, ← hlen, loc_dir_no hok, if_neg (by omega)]
  clear HEM
  have HSm := hide hSm
  have HR := hide (And.intro hn (And.intro hk (And.intro hl hK)))
  clear hd hn hk hK hl hSm hW hbig hn0 hd0 hkl hz
  rw [hd6] at H0
  obtain ⟨L, hLn⟩ : ∃ L, ns.length = L := ⟨_, rfl⟩
  have hLk : ks.length = L := by rw [← hlen]; exact hLn
  clear hlen
  rw [hLn] at hn3 hcn HR H0
  rw [hLk] at hkl1 hck HR H0
  have HL := hide (And.intro hLn hLk)
  rw [hd6, hLn, hLk]
  clear hLn hLk hd6 hcd
  go_enter Try.func46, Try.ntmps46
  go_wp2_with fail
  obtain ⟨hS0, hB0, hC0⟩ := unhide H0
  clear H0 HH hcc hcf HC
  generalize (w.setCell ⟨c, 0, none⟩ (.int .i64 (z + 1))).alloc (.cells #[.int .i64 2, .bool false, .slice ad 0 cd, .slice an L cn, .slice ak L ck] 26) = w1 at *
  rw [← unhide HZ] at hC0
  go_loopw [8] (fun vi wr => ∃ i : Nat, i ≤ L ∧ vi = .int .i64 (i : Int) ∧ Sole c w wr ∧ Ctr wr c (.int .i64 ((n + 1 : Nat) : Int)) ∧ Bx wr w.heap.size (.int .i64 2) (.bool false) (.slice ad 0 cd) (.slice an L cn) (.slice ak L ck) ∧ Hid (∀ j, j < i → okName ns j = true)) (fun vi _ => L - (intOf vi).toNat)
  case atStart => exact ⟨0, by omega, rfl, hS0, hC0, hB0, fun j h => by omega⟩
  case round =>
    clear hS0 hC0 hB0
    obtain ⟨i, hin, rfl, hS, hC, hB, hall⟩ := hrel
    obtain ⟨c0, c1, c2, c3, c4⟩ := hB.cells
    by_cases hltL : i < L
    · have hlt : i < ns.length := by rw [(unhide HL).1]; exact hltL
      obtain ⟨g, o, rfl, hg1, hg2, hcell⟩ := (unhide HR).1.at hn3
      have hbel := hS.below (base := hi) hhi (by omega)
      have hci : wr.cell? ⟨g, o + i, none⟩ = some (.string ns[i]) := by rw [hbel.cell (p := ⟨g, o + i, none⟩) hg2]; exact hcell i _ (by simp [List.getElem?_eq_getElem hlt])
      have hsi := (unhide HSm).s ns[i] (List.getElem_mem hlt)
      have HEn := hide (fun w => entR_any ns[i] w (by omega))
      have HF := hide (fun (h : ¬ okNames ns) => unhide HX h)
      have HW := hide (And.intro hS (And.intro hC hB))
      clear hS hC hB
      cases i with
      | zero =>
        have HO := hide (okName_first hlt)
        have HLT := hide hlt
        simp only [Nat.add_zero] at hci
        clear hcell
        generalize ns[0] = s at *
        clear hlt
        cases hent : entB s
        case false =>
          have h9 := unhide HF (fun h => by have := h 0 (unhide HLT); rw [unhide HO, hent] at this; simp at this)
          obtain ⟨rfl, rfl⟩ := Prod.mk.inj h9
          rw [hent] at HEn
          clear h9 HF HX HY HO HLT HSm HL ih hsi hbel hall
          go_wp2_with fail
          go_quiet ((go_at_call 68; exact Calls.quiet_of_same (unhide HEn _)))
          go_wp2_with fail
          go_ret
          exact ⟨rfl, (unhide HW).1.drewN _, (unhide HW).2.1.drewN _⟩
        case true =>
          rw [hent] at HEn
          clear HF HX HY HSm ih hsi hbel
          go_wp2_with fail
          go_quiet ((go_at_call 68; exact Calls.quiet_of_same (unhide HEn _)))
          go_wp2_with fail
          go_roundw
          case rel =>
            refine ⟨1, by omega, by go_num, (unhide HW).1.drewN _, (unhide HW).2.1.drewN _, (unhide HW).2.2.drewN _, fun j hj => ?_⟩
            obtain rfl : j = 0 := by omega
            rw [unhide HO, hent]
          case measure => simp [intOf]; omega
      | succ i =>
        have hcj : wr.cell? ⟨g, o + i, none⟩ = some (.string (ns.getD i ⟨#[]⟩)) := by
          rw [hbel.cell (p := ⟨g, o + i, none⟩) hg2]
          exact hcell i _ (by simp [List.getElem?_eq_getElem (show i < ns.length by omega), List.getD_eq_getElem?_getD])
        have HO := hide (okName_next hlt)
        have HLT := hide hlt
        clear hcell
        generalize ns.getD i ⟨#[]⟩ = q at *
        generalize ns[i + 1] = s at *
        clear hlt
        cases hent : entB s
        case false =>
          have h9 := unhide HF (fun h => by have := h (i + 1) (unhide HLT); rw [unhide HO, hent] at this; simp at this)
          obtain ⟨rfl, rfl⟩ := Prod.mk.inj h9
          rw [hent] at HEn
          clear h9 HF HX HY HO HLT HSm HL ih hsi hbel hall
          go_wp2_with fail
          go_quiet ((go_at_call 68; exact Calls.quiet_of_same (unhide HEn _)))
          go_wp2_with fail
          go_ret
          exact ⟨rfl, (unhide HW).1.drewN _, (unhide HW).2.1.drewN _⟩
        case true =>
          rw [hent] at HEn
          clear HSm ih hsi hbel
          go_wp2_with fail
          go_quiet ((go_at_call 68; exact Calls.quiet_of_same (unhide HEn _)))
          go_wp2_with fail
          · rename_i hle
            have hno : ¬ okNames ns := fun h => by have := h (i + 1) (unhide HLT); rw [unhide HO, hent] at this; exact less_yes hle (by simpa using this)
            have h9 := unhide HF hno
            obtain ⟨rfl, rfl⟩ := Prod.mk.inj h9
            go_ret
            exact ⟨rfl, (unhide HW).1.drewN _, (unhide HW).2.1.drewN _⟩
          · rename_i hle
            have HYe : Hid (okName ns (i + 1) = true) := by show okName ns (i + 1) = true; rw [unhide HO, hent]; simpa using less_no hle
            clear HF HX HY
            go_roundw
            case rel =>
              refine ⟨i + 1 + 1, by omega, by go_num, (unhide HW).1.drewN _, (unhide HW).2.1.drewN _, (unhide HW).2.2.drewN _, fun j hj => ?_⟩
              by_cases e : j = i + 1
              · subst e; exact unhide HYe
              · exact unhide hall j (by omega)
            case measure => simp [intOf]; omega
    · have HE' : Hid (chks ks (deep + 1) (n + 1) = (E, M)) := unhide HY (fun j hj => unhide hall j (by have := (unhide HL).1; omega))
      clear HY HX hall
      go_wp2_with fail
      clear c0 c1 c2 c3 c4
      have HT := hide (unhide HSm).t
      have HW := hide (And.intro hS (And.intro hC hB))
      clear hS hC hB HSm
      generalize wr = w2 at *
      go_loopw [9] (fun vi wr => ∃ i m : Nat, i ≤ L ∧ vi = .int .i64 (i : Int) ∧ Sole c w wr ∧ Bx wr w.heap.size (.int .i64 2) (.bool false) (.slice ad 0 cd) (.slice an L cn) (.slice ak L ck) ∧ Ctr wr c (.int .i64 (m : Int)) ∧ Hid (m ≤ 65536) ∧ Hid (chks (ks.drop i) (deep + 1) m = (E, M))) (fun vi _ => L - (intOf vi).toNat)
      case atStart => exact ⟨0, n + 1, by omega, rfl, (unhide HW).1, (unhide HW).2.2, (unhide HW).2.1, HNb, HE'⟩
      case round =>
        obtain ⟨i, m, hik, rfl, hS, hB, hC, hm, hq⟩ := hrel
        obtain ⟨c0, c1, c2, c3, c4⟩ := hB.cells
        by_cases hlt : i < L
        · have hltk : i < ks.length := by rw [(unhide HL).2]; exact hlt
          obtain ⟨g, o, rfl, hg1, hg2, hcell⟩ := (unhide HR).2.1.at hn3
          obtain ⟨hl, hK⟩ := (unhide HR).2.2
          have hbel := hS.below (base := hi) hhi (by omega)
          have hcell' : ∀ j u, Ks.flatten[j]? = some u → wr.cell? ⟨g, o + j, none⟩ = some u := fun j u hj => by rw [hbel.cell (p := ⟨g, o + j, none⟩) hg2]; exact hcell j u hj
          obtain ⟨k', x', a1, n1, c1', a2, n2, c2', a3, n3, c3', hLi, z0, z1, z2, z3, z4⟩ := kid_sl (hl.trans (unhide HL).2.symm) hcell' (fun i t c h1 h2 => (hK i t c h1 h2).kept hbel (Nat.le_refl _)) i hltk
          have hzr := hS.size
          have HI := hide (ih ks[i] (List.getElem_mem hltk) lo hi _ wr c (deep + 1) m hLi (unhide HT _ (List.getElem_mem hltk)) hC hhi (unhide hm) (by have := unhide HD0; omega))
          have HQ := hide (chks_step ks i (deep + 1) m hltk)
          have HM := hide (chk_ok ks[i] (deep + 1) m)
          clear hcell hcell' hl hK hLi hC hbel
          generalize ks[i] = t at *
          clear hltk
          go_wp2_with fail
          refine (unhide HI).mono ?_
          rintro e w3 ⟨rfl, hS3, hC3⟩
          have hS4 : Sole c w w3 := hS.trans hS3
          have hB4 := hB.sole hS3 (by omega)
          clear hS3 HI z0 z1 z2 z3 z4
          by_cases he : (chk t (deep + 1) m).1 = 0
          · have hq' : Hid (chks (ks.drop (i + 1)) (deep + 1) (chk t (deep + 1) m).2 = (E, M)) := by
              have h := unhide HQ
              rw [if_pos he, unhide hq] at h
              exact h.symm
            have hm' : Hid ((chk t (deep + 1) m).2 ≤ 65536) := unhide HM he
            rw [he]
            clear HQ HM he hq hm
            generalize (chk t (deep + 1) m).2 = m' at *
            have HS4 := hide (And.intro hS4 (And.intro hB4 hC3))
            clear hC3 hS4 hB4
            go_wp2_with fail
            go_roundw
            case rel => exact ⟨i + 1, m', by omega, by go_num, (unhide HS4).1, (unhide HS4).2.1, (unhide HS4).2.2, hm', hq'⟩
            case measure => simp [intOf]; omega
          · have h := unhide HQ
            rw [if_neg he, unhide hq] at h
            have hne : ((((chk t (deep + 1) m).1 : Nat) : Int) == 0) = false := by rw [beq_eq_false_iff_ne]; omega
            rw [← h] at hC3 hne ⊢
            clear HQ HM he hq hm h
            go_wp2_with fail
            go_ret
            exact ⟨rfl, hS4, hC3⟩
        · obtain rfl : i = L := by omega
          have HF := unhide hq
          rw [← (unhide HL).2, chks_end] at HF
          obtain ⟨rfl, rfl⟩ := Prod.mk.inj HF
          clear HF hq HE'
          go_wp2_with fail
          go_ret
          exact ⟨rfl, hS, hC⟩
end Go.Proofs.Ytikamklgelcnhaa
/- Check, in the code and in the document's own answer: one and the same. -/
namespace Go.Proofs.Ytikamklgelcnhaa
open Go.RowKit
theorem Lies.form {lo hi : Nat} {w : World} {T : Tr} {cs : List Value} (h : Lies lo hi w T cs) : ∃ k x a1 n1 c1 a2 n2 c2 a3 n3 c3, cs = [.int .i64 k, .bool x, .slice a1 n1 c1, .slice a2 n2 c2, .slice a3 n3 c3] := by
  cases h with
  | mk k x d ns ks vd vn vk Ks hl hd hn hk hK =>
    obtain ⟨a1, c1, rfl, _⟩ := hd.slice
    obtain ⟨a2, c2, rfl, _⟩ := hn.slice
    obtain ⟨a3, c3, rfl, _⟩ := hk.slice
    exact ⟨k, x, a1, _, c1, a2, _, c2, a3, _, c3, rfl⟩
set_option maxRecDepth 20000 in
set_option maxHeartbeats 1000000 in
theorem check_any (T : Tr) (lo hi : Nat) (cs : List Value) (w : World) (hL : Lies lo hi w T cs) (hW : wt T ≤ 100000) (hhi : hi ≤ w.heap.size) :
    Calls Try.prog 26 #[.agg cs.toArray] w fun e w' => e = .returned (.int .i64 (((chk T 1 0).1 : Nat) : Int)) ∧ Below w.heap.size w w' := by
  obtain ⟨k, x, a1, n1, c1, a2, n2, c2, a3, n3, c3, rfl⟩ := hL.form
  have hb0 : Below w.heap.size w ((w.alloc (.cells #[.int .i64 k, .bool x, .slice a1 n1 c1, .slice a2 n2 c2, .slice a3 n3 c3] 26)).alloc (.cells #[.int .i64 0] 3)) := ((Below.refl _ _).alloc (Nat.le_refl _) _).alloc (by simp) _
  have hC0 : Ctr ((w.alloc (.cells #[.int .i64 k, .bool x, .slice a1 n1 c1, .slice a2 n2 c2, .slice a3 n3 c3] 26)).alloc (.cells #[.int .i64 0] 3)) (w.heap.size + 1) (.int .i64 ((0 : Nat) : Int)) := ⟨by simp [go_sem], by simp [go_sem]⟩
  have HI := hide (chkC_any T lo hi _ _ (w.heap.size + 1) 1 0 (hL.kept hb0 hhi) hW hC0 (by omega) (by omega) (by omega))
  clear hL hC0
  obtain ⟨E, M, hEM⟩ : ∃ E M, chk T 1 0 = (E, M) := ⟨_, _, rfl⟩
  rw [hEM] at HI ⊢
  clear hEM
  go_enter Try.func26, Try.ntmps26
  go_wp2_with fail
  refine (unhide HI).mono ?_
  rintro e w1 ⟨rfl, hS, _⟩
  have hbl : Below w.heap.size w w1 := hb0.trans (hS.below (by omega) (by simp; omega))
  go_wp2_with fail
  go_ret
  exact ⟨rfl, hbl⟩
set_option maxRecDepth 20000 in
set_option maxHeartbeats 1000000 in
theorem checkR_any (T : Tr) (lo hi : Nat) (cs : List Value) (w : World) (hL : Lies lo hi w T cs) (hW : wt T ≤ 100000) (hhi : hi ≤ w.heap.size) :
    Calls Try.prog 29 #[.agg cs.toArray] w fun e w' => e = .returned (.int .i64 (((chk T 1 0).1 : Nat) : Int)) ∧ Below w.heap.size w w' := by
  obtain ⟨k, x, a1, n1, c1, a2, n2, c2, a3, n3, c3, rfl⟩ := hL.form
  have hb0 : Below w.heap.size w ((w.alloc (.cells #[.int .i64 k, .bool x, .slice a1 n1 c1, .slice a2 n2 c2, .slice a3 n3 c3] 26)).alloc (.cells #[.int .i64 0] 3)) := ((Below.refl _ _).alloc (Nat.le_refl _) _).alloc (by simp) _
  have hC0 : Ctr ((w.alloc (.cells #[.int .i64 k, .bool x, .slice a1 n1 c1, .slice a2 n2 c2, .slice a3 n3 c3] 26)).alloc (.cells #[.int .i64 0] 3)) (w.heap.size + 1) (.int .i64 ((0 : Nat) : Int)) := ⟨by simp [go_sem], by simp [go_sem]⟩
  have HI := hide (chkR_any T lo hi _ _ (w.heap.size + 1) 1 0 (hL.kept hb0 hhi) hW hC0 (by omega) (by omega) (by omega))
  clear hL hC0
  obtain ⟨E, M, hEM⟩ : ∃ E M, chk T 1 0 = (E, M) := ⟨_, _, rfl⟩
  rw [hEM] at HI ⊢
  clear hEM
  go_enter Try.func29, Try.ntmps29
  go_wp2_with fail
  refine (unhide HI).mono ?_
  rintro e w1 ⟨rfl, hS, _⟩
  have hbl : Below w.heap.size w w1 := hb0.trans (hS.below (by omega) (by simp; omega))
  go_wp2_with fail
  go_ret
  exact ⟨rfl, hbl⟩
end Go.Proofs.Ytikamklgelcnhaa
/- Rows appended to rows of the call's own. -/
namespace Go.Proofs.Ytikamklgelcnhaa
open Go.RowKit
def app22 (ty : TypeId) (args : Array Value) : Sem Value := Builtin.append_ #[22, 22] ty args
@[go_sem ↓] theorem append_app22 (ty : TypeId) (args : Array Value) : Builtin.append_ #[22, 22] ty args = app22 ty args := rfl
def app23 (ty : TypeId) (args : Array Value) : Sem Value := Builtin.append_ #[23, 23] ty args
@[go_sem ↓] theorem append_app23 (ty : TypeId) (args : Array Value) : Builtin.append_ #[23, 23] ty args = app23 ty args := rfl
def app24 (ty : TypeId) (args : Array Value) : Sem Value := Builtin.append_ #[24, 24] ty args
@[go_sem ↓] theorem append_app24 (ty : TypeId) (args : Array Value) : Builtin.append_ #[24, 24] ty args = app24 ty args := rfl
theorem info_at (e : TypeId) (z : Value) (size bytes : Nat) (h : (Try.prog.info? e).map (fun i => (i.zero, i.size, i.bytes)) = some (some z, size, bytes)) : ∃ i, Try.prog.info? e = some i ∧ i.zero = some z ∧ i.size = size ∧ i.bytes = bytes := by
  cases hq : Try.prog.info? e with
  | none => simp [hq] at h
  | some i => simp [hq] at h; exact ⟨i, rfl, h.1, h.2.1, h.2.2⟩
theorem info5 : ∃ i, Try.prog.info? 5 = some i ∧ i.zero = some (.int .u8 0) ∧ i.size = 1 ∧ i.bytes = 1 := info_at _ _ _ _ (by kernel_rfl)
theorem info9 : ∃ i, Try.prog.info? 9 = some i ∧ i.zero = some (.string ⟨#[]⟩) ∧ i.size = 1 ∧ i.bytes = 16 := info_at _ _ _ _ (by kernel_rfl)
theorem info26 : ∃ i, Try.prog.info? 26 = some i ∧ i.zero = some (.agg #[.int .i64 0, .bool false, .slice none 0 0, .slice none 0 0, .slice none 0 0]) ∧ i.size = 5 ∧ i.bytes = 88 := info_at _ _ _ _ (by kernel_rfl)
/-- Whatever has turned besides, the call's own row stands. -/
theorem owns_same {w w' : World} {base base' : Nat} {e : TypeId} {size : Nat} {v : Value} {n : Nat} {xs : List Value} (h : w.ownsRow base e size v n xs) (hs : ∀ g, v.ownBlock = some g → w'.heap[g]? = w.heap[g]?) (hb : ∀ g, v.ownBlock = some g → base ≤ g → base' ≤ g) : w'.ownsRow base' e size v n xs := by
  refine ⟨h.1, ?_⟩
  rcases h.2 with h2 | ⟨g, cap, cur, rfl, hg, hh, r⟩
  · exact .inl h2
  · exact .inr ⟨g, cap, cur, rfl, hb g rfl hg, by rw [hs g rfl]; exact hh, r⟩
theorem addr_mid (g o j : Nat) : (⟨g, o, none⟩ : Addr).add j = ⟨g, o + j, none⟩ := by unfold Addr.add; split <;> simp_all
theorem Row.src {lo hi : Nat} {w : World} {a : Option Addr} {n c : Nat} {xs : List Value} (h : Row lo hi w (.slice a n c) n xs) (h0 : 0 < n) : ∃ b : Addr, a = some b ∧ ∀ j u, xs[j]? = some u → w.cell? (b.add j) = some u := by
  obtain ⟨g, o, rfl, _, _, hcell⟩ := h.at h0
  exact ⟨_, rfl, fun j u hj => by rw [addr_mid]; exact hcell j u hj⟩
/-- The one law of append onto a row of one's own: for every element type here. -/
theorem app_own {t e : TypeId} {i : TypeInfo} {z : Value} {size bytes : Nat} (ht : Try.prog.underlying t = some (.slice e)) (hi : Try.prog.info? e = some i) (hz : i.zero = some z) (hsize : i.size = size) (hby : i.bytes = bytes) (hzs : z.cells.size = size) (hsz : 0 < size)
    (w : World) (base lo hi' : Nat) (v : Value) (n : Nat) (xs : List Value) (a : Option Addr) (m c : Nat) (ys : List Value) (ty : TypeId) (ho : w.ownsRow base e size v n xs) (hr : Row lo hi' w (.slice a m c) m ys) (hl : ys.length = m * size) (h1 : ∀ u ∈ ys, u.oneCell' = true) (hmax : (n + m) * bytes ≤ 100000000000) (hbytes : 0 < bytes) (hbase : base ≤ w.heap.size) :
    ∃ v' w', (Builtin.append_ #[t, t] ty #[v, .slice a m c]).run Try.prog w = .ok v' w' ∧ w'.ownsRow base e size v' (n + m) (xs ++ ys) ∧ w.grownBy w' v.ownBlock ∧ (v'.ownBlock = v.ownBlock ∨ v'.ownBlock = some w.heap.size) := by
  have hnm : n + m ≤ 100000000000 := Nat.le_trans (Nat.le_mul_of_pos_right _ hbytes) hmax
  by_cases h0 : 0 < m
  · obtain ⟨b, rfl, hcell⟩ := hr.src h0
    obtain ⟨v', w', hr', h2, h3, -⟩ := run_append_own (P := Try.prog) w base t ty e i z size bytes ht hi hz hsize hby hzs hsz v n xs ho b m c ys hl hcell h1 (by simp only [maxLen]; omega) (by omega) hbase
    refine ⟨v', w', hr', h2, h3, ?_⟩
    subst hsize
    subst hby
    rcases ho.2 with ⟨rfl, rfl⟩ | ⟨g, cap, cur, rfl, hg, hh, hcap, hm, hcs, htk⟩
    · rw [run_append_nil (P := Try.prog) w t ty e i z ht hi hz b m c ys hl hcell h0 (by omega) (by rw [Nat.zero_add] at hmax; omega)] at hr'
      injection hr' with e1 e2
      subst e1
      exact .inr rfl
    · by_cases hroom : n + m ≤ cap
      · rw [run_append_room (P := Try.prog) w t ty e i ht hi g n cap cur hh b m c ys hl hcell h1 hroom (by rw [hl, hcs, ← Nat.add_mul]; exact Nat.mul_le_mul_right _ hroom)] at hr'
        injection hr' with e1 e2
        subst e1
        exact .inl rfl
      · have hold : ∀ j u, xs[j]? = some u → w.cell? ((⟨g, 0, none⟩ : Addr).add j) = some u := fun j u hj => by
          rw [addr_mid, Nat.zero_add]
          have e0 : w.cell? ⟨g, j, none⟩ = cur[j]? := by unfold World.cell?; simp [hh]
          rw [e0]
          rw [← htk] at hj
          have hj2 := (List.getElem?_eq_some_iff.1 hj).1
          rw [List.length_take] at hj2
          rw [List.getElem?_take_of_lt (by omega)] at hj
          rw [← hj]; simp
        have hfit : Builtin.nextslicecap (n + m) cap * i.bytes ≤ 281474976710656 := growslice_fits (by omega) (by omega)
        rw [run_append_grow (P := Try.prog) w t ty e i z ht hi hz ⟨g, 0, none⟩ n cap xs ho.1 hold b m c ys hl hcell (by omega) (by omega) hfit] at hr'
        injection hr' with e1 e2
        subst e1
        exact .inr rfl
  · obtain rfl : m = 0 := by omega
    obtain rfl : ys = [] := List.eq_nil_of_length_eq_zero (by rw [hl]; omega)
    have hsrc : Src Try.prog i.size t (.slice a 0 c) 0 [] w := by
      cases a with
      | none => exact Src.ofNil w ht c
      | some x => exact Src.ofSlice w ht x 0 c [] (by simp) (fun j u hj => by simp at hj) (fun u hu => by simp at hu)
    obtain ⟨b, n', cp, rfl, hle, hn⟩ : ∃ b n' cp, v = .slice b n' cp ∧ n' ≤ cp ∧ n' = n := by
      rcases ho.2 with ⟨rfl, h⟩ | ⟨g, cap, cur, rfl, _, _, h, _⟩
      · exact ⟨none, 0, 0, rfl, Nat.le_refl _, h.symm⟩
      · exact ⟨_, _, _, rfl, h, rfl⟩
    refine ⟨_, w, run_append_nothing w t t ty e i ht hi b n' cp hle _ hsrc, ?_, ?_, .inl rfl⟩
    · rw [List.append_nil]; exact ho
    · exact ⟨rfl, rfl, rfl, Nat.le_refl _, fun _ _ _ => rfl⟩
theorem app22_own (w : World) (base lo hi : Nat) (v : Value) (n : Nat) (xs : List Value) (a : Option Addr) (m c : Nat) (ys : List Value) (ho : w.ownsRow base 5 1 v n xs) (hr : Row lo hi w (.slice a m c) m ys) (hl : ys.length = m) (h1 : ∀ u ∈ ys, u.oneCell' = true) (hmax : n + m ≤ 100000000) (hbase : base ≤ w.heap.size) :
    ∃ v' w', (∀ ty, (app22 ty #[v, .slice a m c]).run Try.prog w = .ok v' w') ∧ w'.ownsRow base 5 1 v' (n + m) (xs ++ ys) ∧ w.grownBy w' v.ownBlock ∧ (v'.ownBlock = v.ownBlock ∨ v'.ownBlock = some w.heap.size) := by
  obtain ⟨i, hi', hz, hsz, hby⟩ := info5
  obtain ⟨v', w', hr', h2, h3, h4⟩ := app_own Try.underlying22 hi' hz hsz hby rfl (by omega) w base lo hi v n xs a m c ys 22 ho hr (by omega) h1 (by omega) (by omega) hbase
  exact ⟨v', w', fun ty => hr', h2, h3, h4⟩
theorem app23_own (w : World) (base lo hi : Nat) (v : Value) (n : Nat) (xs : List Value) (a : Option Addr) (m c : Nat) (ys : List Value) (ho : w.ownsRow base 9 1 v n xs) (hr : Row lo hi w (.slice a m c) m ys) (hl : ys.length = m) (h1 : ∀ u ∈ ys, u.oneCell' = true) (hmax : n + m ≤ 100000000) (hbase : base ≤ w.heap.size) :
    ∃ v' w', (∀ ty, (app23 ty #[v, .slice a m c]).run Try.prog w = .ok v' w') ∧ w'.ownsRow base 9 1 v' (n + m) (xs ++ ys) ∧ w.grownBy w' v.ownBlock ∧ (v'.ownBlock = v.ownBlock ∨ v'.ownBlock = some w.heap.size) := by
  obtain ⟨i, hi', hz, hsz, hby⟩ := info9
  obtain ⟨v', w', hr', h2, h3, h4⟩ := app_own Try.underlying23 hi' hz hsz hby rfl (by omega) w base lo hi v n xs a m c ys 23 ho hr (by omega) h1 (by omega) (by omega) hbase
  exact ⟨v', w', fun ty => hr', h2, h3, h4⟩
theorem app24_own (w : World) (base lo hi : Nat) (v : Value) (n : Nat) (xs : List Value) (a : Option Addr) (m c : Nat) (ys : List Value) (ho : w.ownsRow base 26 5 v n xs) (hr : Row lo hi w (.slice a m c) m ys) (hl : ys.length = m * 5) (h1 : ∀ u ∈ ys, u.oneCell' = true) (hmax : n + m ≤ 100000000) (hbase : base ≤ w.heap.size) :
    ∃ v' w', (∀ ty, (app24 ty #[v, .slice a m c]).run Try.prog w = .ok v' w') ∧ w'.ownsRow base 26 5 v' (n + m) (xs ++ ys) ∧ w.grownBy w' v.ownBlock ∧ (v'.ownBlock = v.ownBlock ∨ v'.ownBlock = some w.heap.size) := by
  obtain ⟨i, hi', hz, hsz, hby⟩ := info26
  obtain ⟨v', w', hr', h2, h3, h4⟩ := app_own Try.underlying24 hi' hz hsz hby rfl (by omega) w base lo hi v n xs a m c ys 24 ho hr hl h1 (by omega) (by omega) hbase
  exact ⟨v', w', fun ty => hr', h2, h3, h4⟩
end Go.Proofs.Ytikamklgelcnhaa
/- What stands where it stood while other blocks turn. -/
namespace Go.Proofs.Ytikamklgelcnhaa
open Go.RowKit
theorem Row.same {lo hi : Nat} {w w' : World} {v : Value} {n : Nat} {xs : List Value} (h : Row lo hi w v n xs) (hs : ∀ k, lo ≤ k → k < hi → w'.heap[k]? = w.heap[k]?) : Row lo hi w' v n xs := by
  obtain ⟨a, c, e, hc, hx⟩ := h
  refine ⟨a, c, e, hc, fun h0 => ?_⟩
  obtain ⟨g, o, ea, hg1, hg2, hcell⟩ := hx h0
  exact ⟨g, o, ea, hg1, hg2, fun j u hj => by rw [World.cell?_of_block (w := w) (a := ⟨g, o + j, none⟩) (hs g hg1 hg2)]; exact hcell j u hj⟩
theorem Lies.same {lo hi : Nat} {w w' : World} {T : Tr} {cs : List Value} (h : Lies lo hi w T cs) (hs : ∀ k, lo ≤ k → k < hi → w'.heap[k]? = w.heap[k]?) : Lies lo hi w' T cs := by
  induction h with
  | mk k x d ns ks vd vn vk Ks hl hd hn hk hK ih => exact .mk k x d ns ks vd vn vk Ks hl (hd.same hs) (hn.same hs) (hk.same hs) ih
theorem cell_of_row (w : World) (g j : Nat) (c : Array Value) (t : TypeId) (f : Nat × Nat) (h : w.heap[g]? = some (.cells c t f)) : w.cell? ⟨g, j, none⟩ = c[j]? := by
  unfold World.cell?; simp [h]
theorem owns_row {w : World} {base lo hi : Nat} {e : TypeId} {size : Nat} {v : Value} {n : Nat} {xs : List Value} (h : w.ownsRow base e size v n xs) (hb : ∀ g, v.ownBlock = some g → lo ≤ g ∧ g < hi) : Row lo hi w v n xs := by
  rcases h.2 with ⟨rfl, rfl⟩ | ⟨g, cap, cur, rfl, hg, hh, hcap, hm, hsz, ht⟩
  · exact ⟨none, 0, rfl, Nat.le_refl _, fun h => by omega⟩
  · refine ⟨_, cap, rfl, hcap, fun _ => ⟨g, 0, rfl, (hb g rfl).1, (hb g rfl).2, fun j u hj => ?_⟩⟩
    rw [cell_of_row w g (0 + j) cur e _ hh, Nat.zero_add]
    rw [← ht] at hj
    have hj2 := (List.getElem?_eq_some_iff.1 hj).1
    rw [List.length_take] at hj2
    rw [List.getElem?_take_of_lt (by omega)] at hj
    rw [← hj]; simp
theorem owns_lt {w : World} {base : Nat} {e : TypeId} {size : Nat} {v : Value} {n : Nat} {xs : List Value} (h : w.ownsRow base e size v n xs) : ∀ g, v.ownBlock = some g → base ≤ g ∧ g < w.heap.size := by
  intro g hg
  rcases h.2 with ⟨rfl, rfl⟩ | ⟨g', cap, cur, rfl, hg', hh, _⟩
  · simp [Value.ownBlock] at hg
  · simp [Value.ownBlock] at hg; subst hg; exact ⟨hg', (Array.getElem?_eq_some_iff.1 hh).1⟩
theorem owns_slice {w : World} {base : Nat} {e : TypeId} {size : Nat} {v : Value} {n : Nat} {xs : List Value} (h : w.ownsRow base e size v n xs) : ∃ a c, v = .slice a n c ∧ n ≤ c := by
  rcases h.2 with ⟨rfl, rfl⟩ | ⟨g', cap, cur, rfl, hg', hh, hc, _⟩
  · exact ⟨none, 0, rfl, Nat.le_refl _⟩
  · exact ⟨_, _, rfl, hc⟩
theorem Bx.fr {w : World} {b : Nat} {v0 v1 v2 v3 v4 : Value} (h : Bx w b v0 v1 v2 v3 v4) (o : Nat) : w.frozen? ⟨b, o, none⟩ = false := by
  unfold World.frozen?; rw [show w.heap[b]? = _ from h]; simp
theorem Bx.set2 {w : World} {b : Nat} {v0 v1 v2 v3 v4 : Value} (h : Bx w b v0 v1 v2 v3 v4) (v : Value) : Bx (w.setCell ⟨b, 2, none⟩ v) b v0 v1 v v3 v4 := by
  unfold Bx at *; simp [World.setCell, Array.getElem?_modify, h]
theorem Bx.set3 {w : World} {b : Nat} {v0 v1 v2 v3 v4 : Value} (h : Bx w b v0 v1 v2 v3 v4) (v : Value) : Bx (w.setCell ⟨b, 3, none⟩ v) b v0 v1 v2 v v4 := by
  unfold Bx at *; simp [World.setCell, Array.getElem?_modify, h]
theorem Bx.set4 {w : World} {b : Nat} {v0 v1 v2 v3 v4 : Value} (h : Bx w b v0 v1 v2 v3 v4) (v : Value) : Bx (w.setCell ⟨b, 4, none⟩ v) b v0 v1 v2 v3 v := by
  unfold Bx at *; simp [World.setCell, Array.getElem?_modify, h]
theorem set_other (w : World) (b o k : Nat) (v : Value) (h : k ≠ b) : (w.setCell ⟨b, o, none⟩ v).heap[k]? = w.heap[k]? := Below.heap_setCell _ _ _ _ h
end Go.Proofs.Ytikamklgelcnhaa
/- Parts of slices. -/
namespace Go.Proofs.Ytikamklgelcnhaa
open Go.RowKit
theorem elem23 : Try.prog.elem 23 = 9 := by kernel_rfl
theorem elem24 : Try.prog.elem 24 = 26 := by kernel_rfl
theorem ht23 : Try.prog.underlying 23 = some (.slice (Try.prog.elem 23)) := by rw [elem23]; exact Try.underlying23
theorem ht24 : Try.prog.underlying 24 = some (.slice (Try.prog.elem 24)) := by rw [elem24]; exact Try.underlying24
def sl23 (v : Value) (lo hi mx : Option Value) : Sem Value := Instr.slice 23 v lo hi mx
def sl24 (v : Value) (lo hi mx : Option Value) : Sem Value := Instr.slice 24 v lo hi mx
theorem slice_sl23 (v : Value) (lo hi mx : Option Value) : Instr.slice 23 v lo hi mx = sl23 v lo hi mx := rfl
theorem slice_sl24 (v : Value) (lo hi mx : Option Value) : Instr.slice 24 v lo hi mx = sl24 v lo hi mx := rfl
theorem row_take {lo hi : Nat} {w : World} {a : Option Addr} {n c i size : Nat} {xs : List Value} (h : Row lo hi w (.slice a n c) n xs) (hi' : i ≤ n) (a1 : Option Addr) (ha : ∀ g o, a = some ⟨g, o, none⟩ → a1 = some ⟨g, o, none⟩) (hc : n ≤ c) : Row lo hi w (.slice a1 i c) i (xs.take (i * size)) := by
  refine ⟨a1, c, rfl, by omega, fun h0 => ?_⟩
  obtain ⟨g, o, rfl, h1, h2, h3⟩ := h.at (by omega)
  refine ⟨g, o, ha g o rfl, h1, h2, fun j u hj => h3 j u ?_⟩
  rw [List.getElem?_take] at hj
  split at hj
  · exact hj
  · cases hj
theorem row_drop {lo hi : Nat} {w : World} {a : Option Addr} {n c i size : Nat} {xs : List Value} (h : Row lo hi w (.slice a n c) n xs) (hi' : i ≤ n) (a1 : Option Addr) (ha : ∀ g o, i < n → a = some ⟨g, o, none⟩ → a1 = some ⟨g, o + i * size, none⟩) (hc : n ≤ c) : Row lo hi w (.slice a1 (n - i) (c - i)) (n - i) (xs.drop (i * size)) := by
  refine ⟨a1, c - i, rfl, by omega, fun h0 => ?_⟩
  obtain ⟨g, o, rfl, h1, h2, h3⟩ := h.at (by omega)
  refine ⟨g, o + i * size, ha g o (by omega) rfl, h1, h2, fun j u hj => ?_⟩
  rw [List.getElem?_drop] at hj
  rw [Nat.add_assoc]
  exact h3 _ u hj
theorem cut_hi23 (lo hi : Nat) (a : Option Addr) (n c i : Nat) (hn : n ≤ c) (hin : i ≤ n) : ∃ a1, (∀ w, (sl23 (.slice a n c) none (some (.int .i64 (i : Int))) none).run Try.prog w = .ok (.slice a1 i c) w) ∧ ∀ (w : World) (xs : List Value), xs.length = n → Row lo hi w (.slice a n c) n xs → Row lo hi w (.slice a1 i c) i (xs.take i) := by
  refine ⟨if c = 0 then a else a.map (·.add (0 * 1)), fun w => ?_, fun w xs hx hr => ?_⟩
  · unfold sl23
    rw [run_slice_h w 23 a n c ht23 .i64 (i : Int) (by omega) (by omega)]
    rw [elem23]
    simp [Try.sizeOf9, Result.andThen, sliced]
  · have := row_take (size := 1) hr hin (if c = 0 then a else a.map (·.add (0 * 1))) (fun g o e => by subst e; split <;> simp [addr_mid]) hn
    simpa using this
theorem cut_lo23 (lo hi : Nat) (a : Option Addr) (n c i : Nat) (hn : n ≤ c) (hin : i ≤ n) : ∃ a1, (∀ w, (sl23 (.slice a n c) (some (.int .i64 (i : Int))) none none).run Try.prog w = .ok (.slice a1 (n - i) (c - i)) w) ∧ ∀ (w : World) (xs : List Value), xs.length = n → Row lo hi w (.slice a n c) n xs → Row lo hi w (.slice a1 (n - i) (c - i)) (n - i) (xs.drop i) := by
  refine ⟨if c = i then a else a.map (·.add (i * 1)), fun w => ?_, fun w xs hx hr => ?_⟩
  · unfold sl23
    rw [run_slice_l w 23 a n c ht23 .i64 (i : Int) (by omega) (by omega)]
    rw [elem23]
    simp [Try.sizeOf9, Result.andThen, sliced]
  · have := row_drop (size := 1) hr hin (if c = i then a else a.map (·.add (i * 1))) (fun g o h e => by subst e; rw [if_neg (by omega)]; simp [addr_mid]) hn
    simpa using this
theorem cut_hi24 (lo hi : Nat) (a : Option Addr) (n c i : Nat) (hn : n ≤ c) (hin : i ≤ n) : ∃ a1, (∀ w, (sl24 (.slice a n c) none (some (.int .i64 (i : Int))) none).run Try.prog w = .ok (.slice a1 i c) w) ∧ ∀ (w : World) (xs : List Value), xs.length = n * 5 → Row lo hi w (.slice a n c) n xs → Row lo hi w (.slice a1 i c) i (xs.take (i * 5)) := by
  refine ⟨if c = 0 then a else a.map (·.add (0 * 5)), fun w => ?_, fun w xs hx hr => ?_⟩
  · unfold sl24
    rw [run_slice_h w 24 a n c ht24 .i64 (i : Int) (by omega) (by omega)]
    rw [elem24]
    simp [Try.sizeOf26, Result.andThen, sliced]
  · exact row_take (size := 5) hr hin (if c = 0 then a else a.map (·.add (0 * 5))) (fun g o e => by subst e; split <;> simp [addr_mid]) hn
theorem cut_lo24 (lo hi : Nat) (a : Option Addr) (n c i : Nat) (hn : n ≤ c) (hin : i ≤ n) : ∃ a1, (∀ w, (sl24 (.slice a n c) (some (.int .i64 (i : Int))) none none).run Try.prog w = .ok (.slice a1 (n - i) (c - i)) w) ∧ ∀ (w : World) (xs : List Value), xs.length = n * 5 → Row lo hi w (.slice a n c) n xs → Row lo hi w (.slice a1 (n - i) (c - i)) (n - i) (xs.drop (i * 5)) := by
  refine ⟨if c = i then a else a.map (·.add (i * 5)), fun w => ?_, fun w xs hx hr => ?_⟩
  · unfold sl24
    rw [run_slice_l w 24 a n c ht24 .i64 (i : Int) (by omega) (by omega)]
    rw [elem24]
    simp [Try.sizeOf26, Result.andThen, sliced]
  · exact row_drop (size := 5) hr hin (if c = i then a else a.map (·.add (i * 5))) (fun g o h e => by subst e; rw [if_neg (by omega)]; simp [addr_mid]) hn
end Go.Proofs.Ytikamklgelcnhaa
/- Trees as bytes: the plain mathematics. No Go text is named here. -/
namespace Go.Proofs.Ytikamklgelcnhaa
open Go.RowKit
/-- So many bytes of a number, the lowest first. -/
def lenB : Nat → Nat → List UInt8
  | 0, _ => []
  | k + 1, n => UInt8.ofNat n :: lenB k (n / 256)
theorem lenB_length (k : Nat) : ∀ n, (lenB k n).length = k := by
  induction k with
  | zero => intro n; rfl
  | succ k ih => intro n; rw [lenB, List.length_cons, ih]
theorem lenB_snoc (k : Nat) : ∀ n, lenB (k + 1) n = lenB k n ++ [UInt8.ofNat (n / 256 ^ k)] := by
  induction k with
  | zero => intro n; simp [lenB]
  | succ k ih =>
    intro n
    rw [lenB, ih, lenB, List.cons_append, Nat.div_div_eq_div_mul, Nat.pow_succ, Nat.mul_comm 256]
theorem lenB_inj (k : Nat) : ∀ n m, n < 256 ^ k → m < 256 ^ k → lenB k n = lenB k m → n = m := by
  induction k with
  | zero => intro n m hn hm _; simp at hn hm; omega
  | succ k ih =>
    intro n m hn hm h
    rw [lenB, lenB] at h
    injection h with h1 h2
    have e1 : n % 256 = m % 256 := by
      have := congrArg UInt8.toNat h1
      simpa [UInt8.toNat_ofNat'] using this
    rw [Nat.pow_succ] at hn hm
    have e2 := ih (n / 256) (m / 256) (by omega) (by omega) h2
    omega
def padN (n : Nat) : Nat := (8 - n % 8) % 8
/-- A text's bytes. -/
def tx (s : List UInt8) : List UInt8 := lenB 8 s.length ++ s ++ List.replicate (padN s.length) 0
def txs : List (List UInt8) → List UInt8
  | [] => []
  | s :: r => tx s ++ txs r
theorem txs_snoc (l : List (List UInt8)) (s : List UInt8) : txs (l ++ [s]) = txs l ++ tx s := by
  induction l with
  | nil => simp [txs]
  | cons a r ih => rw [List.cons_append, txs, txs, ih, List.append_assoc]
theorem tx_inj {s t r q : List UInt8} (hs : s.length < 2 ^ 64) (ht : t.length < 2 ^ 64) (h : tx s ++ r = tx t ++ q) : s = t ∧ r = q := by
  unfold tx at h
  simp only [List.append_assoc] at h
  have hl := lenB_length 8
  obtain ⟨h1, h2⟩ := List.append_inj h (by rw [hl, hl])
  have e := lenB_inj 8 _ _ (by have : (256 : Nat) ^ 8 = 2 ^ 64 := by decide
                               omega) (by have : (256 : Nat) ^ 8 = 2 ^ 64 := by decide
                                          omega) h1
  obtain ⟨h3, h4⟩ := List.append_inj h2 e
  subst h3
  exact ⟨rfl, List.append_cancel_left h4⟩
def sB (s : ByteArray) : List UInt8 := s.data.toList
/-- The words of an archive. -/
def wOpen : List UInt8 := [40]
def wClose : List UInt8 := [41]
def wType : List UInt8 := [116, 121, 112, 101]
def wReg : List UInt8 := [114, 101, 103, 117, 108, 97, 114]
def wExec : List UInt8 := [101, 120, 101, 99, 117, 116, 97, 98, 108, 101]
def wCont : List UInt8 := [99, 111, 110, 116, 101, 110, 116, 115]
def wSym : List UInt8 := [115, 121, 109, 108, 105, 110, 107]
def wTarg : List UInt8 := [116, 97, 114, 103, 101, 116]
def wDir : List UInt8 := [100, 105, 114, 101, 99, 116, 111, 114, 121]
def wEntry : List UInt8 := [101, 110, 116, 114, 121]
def wName : List UInt8 := [110, 97, 109, 101]
def wNode : List UInt8 := [110, 111, 100, 101]
def wMagic : List UInt8 := [110, 105, 120, 45, 97, 114, 99, 104, 105, 118, 101, 45, 49]
mutual
/-- A node's bytes. -/
def nodeB : Tr → List UInt8
  | .mk k x d ns ks => txs [wOpen, wType] ++ (if k = 1 then txs [wReg] ++ (if x then txs [wExec, []] else []) ++ txs [wCont] ++ tx (sB d) else if k = 3 then txs [wSym, wTarg] ++ tx (sB d) else if k = 2 then txs [wDir] ++ entsB ns ks else []) ++ txs [wClose]
def entsB : List ByteArray → List Tr → List UInt8
  | n :: ns, t :: ks => txs [wEntry, wOpen, wName, sB n, wNode] ++ nodeB t ++ txs [wClose] ++ entsB ns ks
  | _, _ => []
end
def narB (T : Tr) : List UInt8 := txs [wMagic] ++ nodeB T
end Go.Proofs.Ytikamklgelcnhaa
/- Rows of the call's own, made one behind the other: bytes, names, kids. -/
namespace Go.Proofs.Ytikamklgelcnhaa
open Go.RowKit
theorem owns_new (w : World) (e : TypeId) (size : Nat) : (w.alloc (.cells #[] e)).ownsRow w.heap.size e size (.slice (some ⟨w.heap.size, 0, none⟩) 0 0) 0 [] :=
  ⟨by simp, .inr ⟨w.heap.size, 0, #[], rfl, Nat.le_refl _, by show (w.heap.push _)[w.heap.size]? = _; rw [Array.getElem?_push, if_pos rfl], Nat.le_refl _, Nat.zero_le _, by simp, by simp⟩⟩
theorem one_bytes (d : ByteArray) : ∀ u ∈ byteVals d, u.oneCell' = true := fun u hu => by obtain ⟨b, -, rfl⟩ := List.mem_map.1 hu; rfl
theorem one_strs (ns : List ByteArray) : ∀ u ∈ ns.map Value.string, u.oneCell' = true := fun u hu => by obtain ⟨b, -, rfl⟩ := List.mem_map.1 hu; rfl
/-- What is appended to an empty literal is a row of its own. -/
theorem fresh22 (w : World) (lo hi : Nat) (a : Option Addr) (m c : Nat) (ys : List Value) (hr : Row lo hi w (.slice a m c) m ys) (hl : ys.length = m) (h1 : ∀ u ∈ ys, u.oneCell' = true) (hmax : m ≤ 100000000) (hhi : hi ≤ w.heap.size) :
    ∃ a1 c1 w1, (∀ ty, (app22 ty #[.slice (some ⟨w.heap.size, 0, none⟩) 0 0, .slice a m c]).run Try.prog (w.alloc (.cells #[] 5)) = .ok (.slice a1 m c1) w1) ∧ Below w.heap.size w w1 ∧ Row w.heap.size w1.heap.size w1 (.slice a1 m c1) m ys := by
  have hb : Below w.heap.size w (w.alloc (.cells #[] 5)) := (Below.refl _ _).alloc (Nat.le_refl _) _
  obtain ⟨v1, w1, happ, ho, hg, _⟩ := app22_own _ _ lo hi _ 0 [] a m c ys (owns_new w 5 1) (hr.below hb hhi) hl h1 (by omega) (by simp)
  rw [Nat.zero_add, List.nil_append] at ho
  obtain ⟨a1, c1, rfl, _⟩ := owns_slice ho
  exact ⟨a1, c1, w1, happ, hb.grown hg (by simp) (fun k hk => by simp [Value.ownBlock] at hk; omega), owns_row ho (owns_lt ho)⟩
theorem fresh23 (w : World) (lo hi : Nat) (a : Option Addr) (m c : Nat) (ys : List Value) (hr : Row lo hi w (.slice a m c) m ys) (hl : ys.length = m) (h1 : ∀ u ∈ ys, u.oneCell' = true) (hmax : m ≤ 100000000) (hhi : hi ≤ w.heap.size) :
    ∃ a1 c1 w1, (∀ ty, (app23 ty #[.slice (some ⟨w.heap.size, 0, none⟩) 0 0, .slice a m c]).run Try.prog (w.alloc (.cells #[] 9)) = .ok (.slice a1 m c1) w1) ∧ Below w.heap.size w w1 ∧ Row w.heap.size w1.heap.size w1 (.slice a1 m c1) m ys := by
  have hb : Below w.heap.size w (w.alloc (.cells #[] 9)) := (Below.refl _ _).alloc (Nat.le_refl _) _
  obtain ⟨v1, w1, happ, ho, hg, _⟩ := app23_own _ _ lo hi _ 0 [] a m c ys (owns_new w 9 1) (hr.below hb hhi) hl h1 (by omega) (by simp)
  rw [Nat.zero_add, List.nil_append] at ho
  obtain ⟨a1, c1, rfl, _⟩ := owns_slice ho
  exact ⟨a1, c1, w1, happ, hb.grown hg (by simp) (fun k hk => by simp [Value.ownBlock] at hk; omega), owns_row ho (owns_lt ho)⟩
/-- Kids of the call's own, so many yet, in a row of its own. -/
def KidsAt (Z : Nat) (w : World) (v : Value) (ks : List Tr) (i : Nat) : Prop :=
  ∃ Ks : List (List Value), Ks.length = i ∧ (∀ c ∈ Ks, c.length = 5) ∧ w.ownsRow Z 26 5 v i Ks.flatten ∧
    ∀ (j : Nat) (t : Tr) (c : List Value), ks[j]? = some t → Ks[j]? = some c → ∃ L H, Lies L H w t c ∧ Z ≤ L ∧ H ≤ w.heap.size ∧ ∀ g, v.ownBlock = some g → g < L ∨ H ≤ g
theorem kids_none (Z : Nat) (w : World) (ks : List Tr) : KidsAt Z w (.slice none 0 0) ks 0 :=
  ⟨[], rfl, fun c hc => by simp at hc, ⟨rfl, .inl ⟨rfl, rfl⟩⟩, fun j t c _ hc => by simp at hc⟩
theorem Lies.one {lo hi : Nat} {w : World} {T : Tr} {cs : List Value} (h : Lies lo hi w T cs) : ∀ u ∈ cs, u.oneCell' = true := by
  obtain ⟨k, x, a1, n1, c1, a2, n2, c2, a3, n3, c3, rfl⟩ := h.form
  intro u hu
  simp at hu
  rcases hu with rfl | rfl | rfl | rfl | rfl <;> rfl
theorem one_row (w : World) (cs : List Value) (e : TypeId) : Row w.heap.size (w.heap.size + 1) (w.alloc (.cells cs.toArray e)) (.slice (some ⟨w.heap.size, 0, none⟩) 1 1) 1 cs := by
  refine ⟨_, 1, rfl, Nat.le_refl _, fun _ => ⟨w.heap.size, 0, rfl, Nat.le_refl _, by omega, fun j u hj => ?_⟩⟩
  rw [cell_of_row (w.alloc (.cells cs.toArray e)) w.heap.size (0 + j) cs.toArray e (0, 0) (by show (w.heap.push _)[w.heap.size]? = _; rw [Array.getElem?_push, if_pos rfl]), Nat.zero_add]
  simpa using hj
/-- One more kid is appended. -/
theorem kids_step {Z : Nat} {wr w1 : World} {v : Value} {ks : List Tr} {i : Nat} {cs : List Value} {t : Tr} (h : KidsAt Z wr v ks i) (hb : Below wr.heap.size wr w1) (hL : Lies wr.heap.size w1.heap.size w1 t cs) (ht : ks[i]? = some t) (hmax : i ≤ 1000000) (hZ : Z ≤ wr.heap.size) :
    ∃ a' c' w2, (∀ ty, (app24 ty #[v, .slice (some ⟨w1.heap.size, 0, none⟩) 1 1]).run Try.prog (w1.alloc (.cells cs.toArray 26)) = .ok (.slice a' (i + 1) c') w2) ∧ KidsAt Z w2 (.slice a' (i + 1) c') ks (i + 1) ∧ Below Z wr w2 := by
  obtain ⟨Ks, hKl, hK5, ho, hK⟩ := h
  have hb1 : Below w1.heap.size w1 (w1.alloc (.cells cs.toArray 26)) := (Below.refl _ _).alloc (Nat.le_refl _) _
  have hb2 : Below wr.heap.size wr (w1.alloc (.cells cs.toArray 26)) := hb.trans (hb1.mono hb.size)
  have hsz := hb.size
  have ho1 : (w1.alloc (.cells cs.toArray 26)).ownsRow Z 26 5 v i Ks.flatten := owns_same ho (fun g hg => hb2.block g (owns_lt ho g hg).2) (fun g _ h => h)
  obtain ⟨v', w2, happ, ho2, hg, hf⟩ := app24_own _ Z _ _ v i Ks.flatten _ 1 1 cs ho1 (one_row w1 cs 26) (by rw [hL.length]) hL.one (by omega) (by simp; omega)
  obtain ⟨a', c', rfl, _⟩ := owns_slice ho2
  have hbw : Below Z wr w2 := (hb2.mono hZ).grown hg (by simp; omega) (fun k hk => (owns_lt ho1 k hk).1)
  have hs1 : (w1.alloc (.cells cs.toArray 26)).heap.size = w1.heap.size + 1 := by simp
  have hs2 := hg.size
  rw [hs1] at hs2 hf
  refine ⟨a', c', w2, happ, ⟨Ks ++ [cs], by rw [List.length_append, hKl]; rfl, ?_, ?_, ?_⟩, hbw⟩
  · intro c hc
    rcases List.mem_append.1 hc with h | h
    · exact hK5 c h
    · simp at h; subst h; exact hL.length
  · rw [List.flatten_append]; simpa using ho2
  · intro j t' c' hj hc
    by_cases hji : j < i
    · rw [List.getElem?_append_left (by omega)] at hc
      obtain ⟨L, H, hLj, hZL, hHw, hap⟩ := hK j t' c' hj hc
      refine ⟨L, H, hLj.same (fun k hk1 hk2 => ?_), hZL, by omega, fun g hgv => ?_⟩
      · rw [hg.block k (by rw [hs1]; omega) (fun e => by have := hap k e.symm; omega), hb2.block k (by omega)]
      · rcases hf with h | h
        · exact hap g (by rw [← h]; exact hgv)
        · rw [h] at hgv; simp at hgv; omega
    · obtain rfl : j = i := by
        have := (List.getElem?_eq_some_iff.1 hc).1
        simp at this; omega
      rw [ht] at hj
      cases hj
      rw [List.getElem?_append_right (by omega), hKl] at hc
      simp at hc
      subst hc
      refine ⟨wr.heap.size, w1.heap.size, hL.same (fun k hk1 hk2 => ?_), hZ, by omega, fun g hgv => ?_⟩
      · rw [hg.block k (by rw [hs1]; omega) (fun e => by have := (owns_lt ho k e.symm).2; omega), hb1.block k (by omega)]
      · rcases hf with h | h
        · have := (owns_lt ho g (by rw [← h]; exact hgv)).2; omega
        · rw [h] at hgv; simp at hgv; omega
theorem kids_end {Z : Nat} {w : World} {v : Value} {ks : List Tr} (h : KidsAt Z w v ks ks.length) :
    ∃ Ks : List (List Value), Ks.length = ks.length ∧ Row Z w.heap.size w v ks.length Ks.flatten ∧ ∀ (j : Nat) (t : Tr) (c : List Value), ks[j]? = some t → Ks[j]? = some c → Lies Z w.heap.size w t c := by
  obtain ⟨Ks, hKl, hK5, ho, hK⟩ := h
  exact ⟨Ks, hKl, owns_row ho (owns_lt ho), fun j t c hj hc => by obtain ⟨L, H, hL, h1, h2, _⟩ := hK j t c hj hc; exact hL.mono h1 h2⟩
/-- What the row of kids is in a world in which nothing of it has turned. -/
theorem KidsAt.same {Z : Nat} {w w' : World} {v : Value} {ks : List Tr} {i : Nat} (h : KidsAt Z w v ks i) (hs : ∀ k, Z ≤ k → k < w.heap.size → w'.heap[k]? = w.heap[k]?) (hz : w.heap.size ≤ w'.heap.size) : KidsAt Z w' v ks i := by
  obtain ⟨Ks, hKl, hK5, ho, hK⟩ := h
  refine ⟨Ks, hKl, hK5, owns_same ho (fun g hg => hs g (owns_lt ho g hg).1 (owns_lt ho g hg).2) (fun g _ h => h), fun j t c hj hc => ?_⟩
  obtain ⟨L, H, hL, h1, h2, h3⟩ := hK j t c hj hc
  exact ⟨L, H, hL.same (fun k hk1 hk2 => hs k (by omega) (by omega)), h1, by omega, h3⟩
end Go.Proofs.Ytikamklgelcnhaa
/- Lengths and what stands behind texts, appended. -/
namespace Go.Proofs.Ytikamklgelcnhaa
open Go.RowKit
set_option linter.unusedSimpArgs false
/-- Bytes as cells. -/
def bv (l : List UInt8) : List Value := l.map fun b => .int .u8 (b.toNat : Int)
theorem bv_append (a b : List UInt8) : bv (a ++ b) = bv a ++ bv b := by unfold bv; rw [List.map_append]
theorem bv_length (a : List UInt8) : (bv a).length = a.length := by unfold bv; rw [List.length_map]
theorem bv_one (a : List UInt8) : ∀ u ∈ bv a, u.oneCell' = true := fun u hu => by obtain ⟨b, -, rfl⟩ := List.mem_map.1 hu; rfl
theorem bv_sB (d : ByteArray) : bv (sB d) = byteVals d := rfl
set_option maxRecDepth 20000 in
set_option maxHeartbeats 1000000 in
theorem padding_any (n : Nat) (w : World) (hn : n ≤ 1000000000) : Calls Try.prog 87 #[.int .i64 (n : Int)] w fun e w' => e = .returned (.int .i64 ((padN n : Nat) : Int)) ∧ w' = w := by
  go_enter Try.func87, Try.ntmps87
  go_wp2_with fail
  go_ret
  refine ⟨?_, rfl⟩
  show Ending.returned (.int .i64 ((8 - (n : Int) % 8) % 8)) = _
  have : (8 - (n : Int) % 8) % 8 = ((padN n : Nat) : Int) := by unfold padN; omega
  rw [this]
/-- One byte more. -/
theorem byte_app (w : World) (base : Nat) (v : Value) (n : Nat) (xs : List UInt8) (b : UInt8) (ho : w.ownsRow base 5 1 v n (bv xs)) (hmax : n ≤ 10000000) (hbase : base ≤ w.heap.size) :
    ∃ a' c' w', (∀ ty, (app22 ty #[v, .slice (some ⟨w.heap.size, 0, none⟩) 1 1]).run Try.prog (w.alloc (.cells #[.int .u8 (b.toNat : Int)] 5)) = .ok (.slice a' (n + 1) c') w') ∧ w'.ownsRow base 5 1 (.slice a' (n + 1) c') (n + 1) (bv (xs ++ [b])) ∧ Below base w w' ∧ w.heap.size ≤ w'.heap.size := by
  obtain ⟨v', w', h1, h2, h3, _⟩ := app22_own (w.alloc (.cells #[.int .u8 (b.toNat : Int)] 5)) base _ _ v n (bv xs) _ 1 1 [.int .u8 (b.toNat : Int)] (ho.alloc _) (one_row w [.int .u8 (b.toNat : Int)] 5) rfl (fun u hu => by simp at hu; subst hu; rfl) (by omega) (by simp; omega)
  obtain ⟨a', c', rfl, _⟩ := owns_slice h2
  refine ⟨a', c', w', h1, by rw [bv_append]; exact h2, ?_, ?_⟩
  · exact ((Below.refl base w).alloc hbase _).grown h3 (by simp; omega) (fun k hk => (owns_lt ho k hk).1)
  · have := h3.size; simp at this; omega
/-- What an appending call answers. -/
def RowA (base : Nat) (w : World) (n : Nat) (xs : List UInt8) (e : Ending) (w' : World) : Prop := ∃ a c, e = .returned (.slice a n c) ∧ w'.ownsRow base 5 1 (.slice a n c) n (bv xs) ∧ Below base w w' ∧ w.heap.size ≤ w'.heap.size
theorem rep_snoc (k : Nat) : List.replicate (k + 1) (0 : UInt8) = List.replicate k 0 ++ [0] := by rw [List.replicate_succ']
set_option maxRecDepth 20000 in
set_option maxHeartbeats 1000000 in
theorem padapp_any (base : Nat) (a : Option Addr) (c n m : Nat) (xs : List UInt8) (w : World) (ho : w.ownsRow base 5 1 (.slice a n c) n (bv xs)) (hmax : n ≤ 1000000) (hm : m ≤ 1000000000) (hbase : base ≤ w.heap.size) :
    Calls Try.prog 65 #[.slice a n c, .int .i64 (m : Int)] w fun e w' => RowA base w (n + padN m) (xs ++ List.replicate (padN m) 0) e w' := by
  have HP := hide (padding_any m w hm)
  have HO := hide ho
  have hp8 : padN m < 8 := by unfold padN; omega
  clear ho
  generalize padN m = pm at *
  go_enter Try.func65, Try.ntmps65
  go_wp2_with fail
  refine (unhide HP).mono ?_
  rintro e w1 ⟨rfl, rfl⟩
  clear HP
  go_wp2_with fail
  go_loopw [7, 0] (fun vi vb wr => ∃ (i : Nat) (a' : Option Addr) (c' : Nat), i ≤ pm ∧ vi = .int .i64 (i : Int) ∧ vb = .slice a' (n + i) c' ∧ Hid (wr.ownsRow base 5 1 (.slice a' (n + i) c') (n + i) (bv (xs ++ List.replicate i 0))) ∧ Below base w1 wr ∧ w1.heap.size ≤ wr.heap.size) (fun vi _ _ => pm - (intOf vi).toNat)
  case atStart => exact ⟨0, a, c, by omega, rfl, rfl, by show World.ownsRow _ _ _ _ _ _ _; simpa using unhide HO, Below.refl _ _, Nat.le_refl _⟩
  case round =>
    obtain ⟨i, a', c', hi, rfl, rfl, hO, hb, hs⟩ := hrel
    by_cases hlt : i < pm
    · obtain ⟨a2, c2, w2, happ, h2, h3, h4⟩ := byte_app wr base (.slice a' (n + i) c') (n + i) (xs ++ List.replicate i 0) 0 (unhide hO) (by omega) (by omega)
      have H2 : Hid (w2.ownsRow base 5 1 (.slice a2 (n + i + 1) c2) (n + i + 1) (bv (xs ++ List.replicate (i + 1) 0))) := by
        show World.ownsRow _ _ _ _ _ _ _
        rw [rep_snoc, ← List.append_assoc]; exact h2
      have H3 := hide (And.intro (hb.trans h3) (Nat.le_trans hs h4))
      have happ' : ∀ ty, (app22 ty #[.slice a' (n + i) c', .slice (some ⟨wr.heap.size, 0, none⟩) 1 1]).run Try.prog (wr.alloc (.cells #[.int .u8 0] 5)) = .ok (.slice a2 (n + i + 1) c2) w2 := happ
      clear hO h2 h3 h4 hb hs happ
      go_wp2_with fail
      go_roundw
      case rel => exact ⟨i + 1, a2, c2, by omega, by go_num, rfl, unhide H2, (unhide H3).1, (unhide H3).2⟩
      case measure => simp [intOf]; try omega
    · obtain rfl : pm = i := by omega
      go_wp2_with fail
      go_ret
      exact ⟨a', c', rfl, unhide hO, hb, hs⟩
set_option maxRecDepth 20000 in
set_option maxHeartbeats 1000000 in
theorem lenapp_any (base : Nat) (a : Option Addr) (c n m : Nat) (xs : List UInt8) (w : World) (ho : w.ownsRow base 5 1 (.slice a n c) n (bv xs)) (hmax : n ≤ 1000000) (hbase : base ≤ w.heap.size) :
    Calls Try.prog 64 #[.slice a n c, .int .i64 (m : Int)] w fun e w' => RowA base w (n + 8) (xs ++ lenB 8 m) e w' := by
  have HO := hide ho
  clear ho
  go_enter Try.func64, Try.ntmps64
  go_wp2_with fail
  go_loopw [5, 0, 1] (fun vi vb vn wr => ∃ (i : Nat) (a' : Option Addr) (c' : Nat), i ≤ 8 ∧ vi = .int .i64 (i : Int) ∧ vn = .int .i64 ((m / 256 ^ i : Nat) : Int) ∧ vb = .slice a' (n + i) c' ∧ Hid (wr.ownsRow base 5 1 (.slice a' (n + i) c') (n + i) (bv (xs ++ lenB i m))) ∧ Below base w wr ∧ w.heap.size ≤ wr.heap.size) (fun vi _ _ _ => 8 - (intOf vi).toNat)
  case atStart => exact ⟨0, a, c, by omega, rfl, by simp, rfl, by show World.ownsRow _ _ _ _ _ _ _; simpa [lenB] using unhide HO, Below.refl _ _, Nat.le_refl _⟩
  case round =>
    obtain ⟨i, a', c', hi, rfl, rfl, rfl, hO, hb, hs⟩ := hrel
    by_cases hlt : i < 8
    · obtain ⟨a2, c2, w2, happ, h2, h3, h4⟩ := byte_app wr base (.slice a' (n + i) c') (n + i) (xs ++ lenB i m) (UInt8.ofNat (m / 256 ^ i)) (unhide hO) (by omega) (by omega)
      have H2 : Hid (w2.ownsRow base 5 1 (.slice a2 (n + i + 1) c2) (n + i + 1) (bv (xs ++ lenB (i + 1) m))) := by
        show World.ownsRow _ _ _ _ _ _ _
        rw [lenB_snoc, ← List.append_assoc]; exact h2
      have H3 := hide (And.intro (hb.trans h3) (Nat.le_trans hs h4))
      have hle : m / 256 ^ i ≤ m := Nat.div_le_self _ _
      have Hq : Hid (m / 256 ^ (i + 1) = m / 256 ^ i / 256) := by show _ = _; rw [Nat.pow_succ, Nat.div_div_eq_div_mul]
      have e0 : ((UInt8.ofNat (m / 256 ^ i)).toNat : Int) = ((m / 256 ^ i : Nat) : Int) % 256 := by rw [UInt8.toNat_ofNat']; omega
      rw [e0] at happ
      clear hO h2 h3 h4 hb hs e0
      generalize m / 256 ^ i = mi at *
      go_wp2_with fail
      go_roundw
      case rel => exact ⟨i + 1, a2, c2, by omega, by go_num, by rw [unhide Hq]; go_num, rfl, unhide H2, (unhide H3).1, (unhide H3).2⟩
      case measure => simp [intOf]; try omega
    · obtain rfl : i = 8 := by omega
      go_wp2_with fail
      go_ret
      exact ⟨a', c', rfl, unhide hO, hb, hs⟩
end Go.Proofs.Ytikamklgelcnhaa
/- The reader of nar: its box; fail. -/
namespace Go.Proofs.Ytikamklgelcnhaa
open Go.RowKit
set_option linter.unusedSimpArgs false
/-- A reader: what was handed in, how many bytes are read, how many nodes have begun, the error. -/
def Rx (w : World) (r : Nat) (b : Value) (p n e : Int) : Prop := w.heap[r]? = some (.cells #[b, .int .i64 p, .int .i64 n, .int .i64 e] 69)
theorem Rx.cells {w : World} {r : Nat} {b : Value} {p n e : Int} (h : Rx w r b p n e) :
    w.cell? ⟨r, 0, none⟩ = some b ∧ w.cell? ⟨r, 1, none⟩ = some (.int .i64 p) ∧ w.cell? ⟨r, 2, none⟩ = some (.int .i64 n) ∧ w.cell? ⟨r, 3, none⟩ = some (.int .i64 e) := by
  unfold Rx at h
  refine ⟨?_, ?_, ?_, ?_⟩
  all_goals
    unfold World.cell?
    rw [h]
    rfl
theorem Rx.fr {w : World} {r : Nat} {b : Value} {p n e : Int} (h : Rx w r b p n e) (o : Nat) : w.frozen? ⟨r, o, none⟩ = false := by
  unfold World.frozen?; rw [show w.heap[r]? = _ from h]; simp
theorem Rx.lt {w : World} {r : Nat} {b : Value} {p n e : Int} (h : Rx w r b p n e) : r < w.heap.size := (Array.getElem?_eq_some_iff.1 h).1
theorem Rx.of {w w' : World} {r : Nat} {b : Value} {p n e : Int} (h : Rx w r b p n e) (k : w'.heap[r]? = w.heap[r]?) : Rx w' r b p n e := by
  unfold Rx; rw [k]; exact h
theorem Rx.kept {w w' : World} {r B : Nat} {b : Value} {p n e : Int} (h : Rx w r b p n e) (hb : Below B w w') (hB : r < B) : Rx w' r b p n e := h.of (hb.block r hB)
theorem Rx.set1 {w : World} {r : Nat} {b : Value} {p n e : Int} (h : Rx w r b p n e) (x : Int) : Rx (w.setCell ⟨r, 1, none⟩ (.int .i64 x)) r b x n e := by
  unfold Rx at *; simp [World.setCell, Array.getElem?_modify, h]
theorem Rx.set2 {w : World} {r : Nat} {b : Value} {p n e : Int} (h : Rx w r b p n e) (x : Int) : Rx (w.setCell ⟨r, 2, none⟩ (.int .i64 x)) r b p x e := by
  unfold Rx at *; simp [World.setCell, Array.getElem?_modify, h]
theorem Rx.set3 {w : World} {r : Nat} {b : Value} {p n e : Int} (h : Rx w r b p n e) (x : Int) : Rx (w.setCell ⟨r, 3, none⟩ (.int .i64 x)) r b p n x := by
  unfold Rx at *; simp [World.setCell, Array.getElem?_modify, h]
theorem Rx.drew {w : World} {r : Nat} {b : Value} {p n e : Int} (h : Rx w r b p n e) : Rx w.drew r b p n e := h
theorem Rx.drewN {w : World} {r : Nat} {b : Value} {p n e : Int} (h : Rx w r b p n e) (k : Nat) : Rx (w.drewN k) r b p n e := h
theorem rx_new (w : World) (b : Value) (p n e : Int) : Rx (w.alloc (.cells #[b, .int .i64 p, .int .i64 n, .int .i64 e] 69)) w.heap.size b p n e := by
  show (w.heap.push _)[w.heap.size]? = _
  rw [Array.getElem?_push, if_pos rfl]
/-- Behind an error another one changes nothing. -/
def orE (e k : Int) : Int := if e = 0 then k else e
theorem orE_ne {e k : Int} (h : e ≠ 0) : orE e k = e := if_neg h
theorem orE_zero (k : Int) : orE 0 k = k := if_pos rfl
set_option maxRecDepth 20000 in
set_option maxHeartbeats 400000 in
theorem fail_any (r : Nat) (b : Value) (p n e k : Int) (w : World) (hx : Rx w r b p n e) :
    Calls Try.prog 60 #[.pointer (some ⟨r, 0, none⟩), .int .i64 k] w fun x w' => x = .returned (.tuple #[]) ∧ Sole r w w' ∧ Rx w' r b p n (orE e k) := by
  obtain ⟨h0, h1, h2, h3⟩ := hx.cells
  have hf := hx.fr 3
  by_cases he : e = 0
  · subst he
    have HX : Hid (Sole r w (w.setCell ⟨r, 3, none⟩ (.int .i64 k)) ∧ Rx (w.setCell ⟨r, 3, none⟩ (.int .i64 k)) r b p n (orE 0 k)) := ⟨(Sole.refl r w).setCell 3 _, by rw [orE_zero]; exact hx.set3 k⟩
    clear hx
    go_enter Try.func60, Try.ntmps60
    go_wp2_with fail
    exact bodyPost_end (v := .tuple #[]) (by simp [results, Try.results60, go_sem]) rfl ⟨rfl, unhide HX⟩
  · have HX : Hid (Sole r w w ∧ Rx w r b p n (orE e k)) := ⟨Sole.refl r w, by rw [orE_ne he]; exact hx⟩
    have hb : (e == 0) = false := by rw [beq_eq_false_iff_ne]; exact he
    clear hx
    go_enter Try.func60, Try.ntmps60
    go_wp2_with fail
    exact bodyPost_end (v := .tuple #[]) (by simp [results, Try.results60, go_sem]) rfl ⟨rfl, unhide HX⟩
end Go.Proofs.Ytikamklgelcnhaa
/- The reader's take. -/
namespace Go.Proofs.Ytikamklgelcnhaa
open Go.RowKit
set_option linter.unusedSimpArgs false
theorem elem22' : Try.prog.elem 22 = 5 := by kernel_rfl
theorem ht22' : Try.prog.underlying 22 = some (.slice (Try.prog.elem 22)) := by rw [elem22']; exact Try.underlying22
def sl22 (v : Value) (lo hi mx : Option Value) : Sem Value := Instr.slice 22 v lo hi mx
theorem slice_sl22 (v : Value) (lo hi mx : Option Value) : Instr.slice 22 v lo hi mx = sl22 v lo hi mx := rfl
theorem cut_lh22 (a : Option Addr) (n c i j : Nat) (hn : n ≤ c) (hin : i ≤ j) (hjn : j ≤ n) : ∃ a1, (∀ w, (sl22 (.slice a n c) (some (.int .i64 (i : Int))) (some (.int .i64 (j : Int))) none).run Try.prog w = .ok (.slice a1 (j - i) (c - i)) w) ∧ ∀ (lo hi : Nat) (w : World) (xs : List Value), xs.length = n → Row lo hi w (.slice a n c) n xs → Row lo hi w (.slice a1 (j - i) (c - i)) (j - i) ((xs.drop i).take (j - i)) := by
  refine ⟨if c = i then a else a.map (·.add (i * 1)), fun w => ?_, fun lo hi w xs hx hr => ?_⟩
  · unfold sl22
    rw [run_slice_lh w 22 a n c ht22' .i64 .i64 (i : Int) (j : Int) (by omega) (by omega) (by omega)]
    rw [elem22']
    simp [Try.sizeOf5, Result.andThen, sliced]
  · refine ⟨_, _, rfl, by omega, fun h0 => ?_⟩
    obtain ⟨g, o, rfl, h1, h2, h3⟩ := hr.at (by omega)
    refine ⟨g, o + i, by rw [if_neg (by omega)]; simp [addr_mid], h1, h2, fun k u hk => ?_⟩
    rw [List.getElem?_take] at hk
    split at hk
    · rw [List.getElem?_drop] at hk
      rw [Nat.add_assoc]; exact h3 _ u hk
    · cases hk
/-- A piece of what was handed in. -/
def Piece (b v : Value) (i n : Nat) : Prop := ∃ (a a1 : Option Addr) (N c d : Nat), b = .slice a N c ∧ v = .slice a1 n d ∧ n ≤ d ∧ i + n ≤ N ∧ ∀ (lo hi : Nat) (w : World) (xs : List Value), xs.length = N → Row lo hi w b N xs → Row lo hi w v n ((xs.drop i).take n)
attribute [local go_sem ↓] slice_sl22
set_option maxRecDepth 20000 in
set_option maxHeartbeats 1000000 in
theorem take_any (r : Nat) (a : Option Addr) (N c p n : Nat) (m e : Int) (w : World) (hx : Rx w r (.slice a N c) (p : Int) m e) (hc : N ≤ c) (hp : p ≤ N) (hN : N ≤ 1000000000) (hn : n ≤ 1000000000) :
    Calls Try.prog 95 #[.pointer (some ⟨r, 0, none⟩), .int .i64 (n : Int)] w fun x w' => ∃ v, x = .returned v ∧ Sole r w w' ∧
      ((e = 0 ∧ p + n ≤ N ∧ Rx w' r (.slice a N c) ((p + n : Nat) : Int) m 0 ∧ Piece (.slice a N c) v p n) ∨
       (¬ (e = 0 ∧ p + n ≤ N) ∧ v = .slice none 0 0 ∧ Rx w' r (.slice a N c) (p : Int) m (orE e 2))) := by
  obtain ⟨h0, h1, h2, h3⟩ := hx.cells
  have hf1 := hx.fr 1
  have HF := hide (fun W (hW : Rx W r (.slice a N c) p m e) => fail_any r (.slice a N c) p m e 2 W hW)
  have HR := hide hx
  by_cases hq : p + n ≤ N
  · by_cases he : e = 0
    · subst he
      have hlt : ¬ ((N : Int) - (p : Int) < (n : Int)) := by omega
      obtain ⟨a1, hrun, hrow⟩ := cut_lh22 a N c p (p + n) hc (by omega) hq
      have e1 : p + n - p = n := by omega
      rw [e1] at hrun hrow
      have e2 : (p : Int) + (n : Int) = ((p + n : Nat) : Int) := by omega
      rw [← e2] at hrun
      clear e1 e2
      have HP : Hid (Piece (.slice a N c) (.slice a1 n (c - p)) p n) := ⟨a, a1, N, c, c - p, rfl, rfl, by omega, hq, hrow⟩
      clear hx hrow
      go_enter Try.func95, Try.ntmps95
      go_wp2_with fail
      go_quiet (fail)
      go_wp2_with fail
      go_quiet (fail)
      go_wp2_with fail
      go_ret
      refine ⟨_, rfl, ((Sole.refl r w).drewN _ |>.setCell 1 _).drewN _, .inl ⟨trivial, hq, ?_, unhide HP⟩⟩
      refine Rx.drewN ?_ _
      rw [Int.natCast_add]
      exact ((unhide HR).drewN _).set1 _
    · have hlt : ¬ ((N : Int) - (p : Int) < (n : Int)) := by omega
      have hb : (e == 0) = false := by rw [beq_eq_false_iff_ne]; exact he
      clear hx
      go_enter Try.func95, Try.ntmps95
      go_wp2_with fail
      go_quiet (fail)
      go_wp2_with fail
      go_ret
      refine ⟨_, rfl, (Sole.refl r w).drewN _, .inr ⟨fun h => he h.1, rfl, ?_⟩⟩
      rw [orE_ne he]
      exact (unhide HR).drewN _
  · have hlt : ((N : Int) - (p : Int) < (n : Int)) := by omega
    have hE : orE e 2 ≠ 0 := by unfold orE; split <;> omega
    obtain ⟨E, hEE⟩ : ∃ E, E = orE e 2 := ⟨_, rfl⟩
    rw [← hEE] at hE
    have HE := hide hEE
    have hb : (E == 0) = false := by rw [beq_eq_false_iff_ne]; exact hE
    clear hx hEE
    go_enter Try.func95, Try.ntmps95
    go_wp2_with fail
    go_quiet (fail)
    go_wp2_with fail
    refine (unhide HF (w.drewN nq) ((unhide HR).drewN _)).mono ?_
    rintro x w1 ⟨rfl, hs1, hr1⟩
    rw [← unhide HE] at hr1
    obtain ⟨k0, k1, k2, k3⟩ := hr1.cells
    have HZ : Hid (Sole r w w1 ∧ Rx w1 r (.slice a N c) p m E) := ⟨((Sole.refl r w).drewN _).trans hs1, hr1⟩
    clear hs1 hr1
    go_wp2_with fail
    go_ret
    refine ⟨_, rfl, (unhide HZ).1, .inr ⟨fun h => hq h.2, rfl, ?_⟩⟩
    rw [← unhide HE]
    exact (unhide HZ).2
end Go.Proofs.Ytikamklgelcnhaa
/- The reader's length. -/
namespace Go.Proofs.Ytikamklgelcnhaa
open Go.RowKit
set_option linter.unusedSimpArgs false
/-- The number that bytes tell, the lowest first. -/
def leN : List UInt8 → Nat
  | [] => 0
  | x :: l => x.toNat + 256 * leN l
theorem leN_snoc (l : List UInt8) (x : UInt8) : leN (l ++ [x]) = leN l + 256 ^ l.length * x.toNat := by
  induction l with
  | nil => simp [leN]
  | cons y l ih =>
    rw [List.cons_append, leN, ih, leN, List.length_cons, Nat.pow_succ, Nat.mul_add, Nat.mul_comm (256 ^ l.length) 256, Nat.mul_assoc]; omega
theorem leN_lt (l : List UInt8) : leN l < 256 ^ l.length := by
  induction l with
  | nil => simp [leN]
  | cons x l ih =>
    have := x.toNat_lt
    rw [leN, List.length_cons, Nat.pow_succ]; omega
theorem leN_lenB (k : Nat) : ∀ n, n < 256 ^ k → leN (lenB k n) = n := by
  induction k with
  | zero => intro n hn; simp at hn; subst hn; rfl
  | succ k ih =>
    intro n hn
    rw [Nat.pow_succ] at hn
    rw [lenB, leN, ih _ (by omega), UInt8.toNat_ofNat']; omega
theorem or_le (n c k : Nat) (h : n < 2 ^ k) : n ||| (c * 2 ^ k) = n + 2 ^ k * c := by
  rw [Nat.mul_comm c, Nat.or_comm, ← Nat.two_pow_add_eq_or_of_lt h, Nat.add_comm]
theorem bits_le (n i : Nat) (x : UInt8) (hn : n < 256 ^ i) (hi : i < 8) : bits .or .u64 (n : Int) (IntKind.u64.wrap (IntKind.u64.wrap (x.toNat : Int) * 2 ^ (8 * i))) = ((n + 256 ^ i * x.toNat : Nat) : Int) := by
  have hx := x.toNat_lt
  have e256 : (256 : Nat) ^ i = 2 ^ (8 * i) := by rw [Nat.pow_mul]
  have h8 : 2 ^ (8 * i) ≤ 2 ^ 56 := Nat.pow_le_pow_right (by omega) (by omega)
  have e1 : IntKind.u64.wrap (x.toNat : Int) = (x.toNat : Int) := by rw [IntKind.wrap_u64]; omega
  have e2 : (x.toNat : Int) * 2 ^ (8 * i) = ((x.toNat * 2 ^ (8 * i) : Nat) : Int) := by push_cast; rfl
  have h9 : x.toNat * 2 ^ (8 * i) < 18446744073709551616 := Nat.lt_of_le_of_lt (Nat.mul_le_mul (Nat.le_of_lt_succ hx) h8) (by decide)
  rw [e1, e2, IntKind.wrap_u64]
  have e3 : ((x.toNat * 2 ^ (8 * i) : Nat) : Int) % 18446744073709551616 = ((x.toNat * 2 ^ (8 * i) : Nat) : Int) := by omega
  rw [e3, bits_or_u64_nat _ _ (by omega) h9, or_le _ _ _ (by omega), e256]
/-- What a reader has and where it lies. -/
structure Rs (lo hi r : Nat) (b : Value) (B : List UInt8) (w : World) (p : Nat) (m e : Int) : Prop where
  rx : Rx w r b (p : Int) m e
  row : Row lo hi w b B.length (bv B)
  le : p ≤ B.length
  big : B.length ≤ 1000000000
  off : r < lo ∨ hi ≤ r
  hi : hi ≤ w.heap.size
theorem Rs.form {lo hi r : Nat} {b : Value} {B : List UInt8} {w : World} {p : Nat} {m e : Int} (h : Rs lo hi r b B w p m e) : ∃ a c, b = .slice a B.length c ∧ B.length ≤ c := by
  obtain ⟨a, c, e, h1, _⟩ := h.row
  exact ⟨a, c, e, h1⟩
theorem Rs.step {lo hi r : Nat} {b : Value} {B : List UInt8} {w w' : World} {p p' : Nat} {m m' e e' : Int} (h : Rs lo hi r b B w p m e) (hs : Sole r w w') (hx : Rx w' r b (p' : Int) m' e') (hp : p' ≤ B.length) : Rs lo hi r b B w' p' m' e' :=
  ⟨hx, h.row.same (fun k h1 h2 => hs.block k (by have := h.hi; omega) (by have := h.off; omega)), hp, h.big, h.off, Nat.le_trans h.hi hs.size⟩
/-- What stands of a row in a piece of it. -/
theorem Rs.piece {lo hi r : Nat} {b v : Value} {B : List UInt8} {w : World} {p i n : Nat} {m e : Int} (h : Rs lo hi r b B w p m e) (hp : Piece b v i n) : Row lo hi w v n (bv ((B.drop i).take n)) := by
  obtain ⟨a, a1, N, c, d, rfl, rfl, h1, h2, h3⟩ := hp
  obtain ⟨a', c', e, h4⟩ := h.form
  cases e
  have := h3 lo hi w (bv B) (bv_length B) h.row
  unfold bv at *
  rwa [← List.map_drop, ← List.map_take] at this
/-- What reading bytes leaves behind: of what was there only the reader has changed. -/
def Err (lo hi r : Nat) (b : Value) (B : List UInt8) (w : World) (m E : Int) : Prop := E ≠ 0 ∧ ∃ p, Rs lo hi r b B w p m E
theorem take_rs (lo hi r : Nat) (b : Value) (B : List UInt8) (w : World) (p n : Nat) (m e : Int) (h : Rs lo hi r b B w p m e) (hn : n ≤ 1000000000) :
    Calls Try.prog 95 #[.pointer (some ⟨r, 0, none⟩), .int .i64 (n : Int)] w fun x w' => ∃ v, x = .returned v ∧ Sole r w w' ∧
      ((e = 0 ∧ p + n ≤ B.length ∧ Rs lo hi r b B w' (p + n) m 0 ∧ Piece b v p n) ∨
       (¬ (e = 0 ∧ p + n ≤ B.length) ∧ v = .slice none 0 0 ∧ Rs lo hi r b B w' p m (orE e 2))) := by
  obtain ⟨a, c, rfl, hc⟩ := h.form
  refine (take_any r a B.length c p n m e w h.rx hc h.le h.big hn).mono ?_
  rintro x w' ⟨v, rfl, hs, hh⟩
  refine ⟨v, rfl, hs, ?_⟩
  rcases hh with ⟨h1, h2, h3, h4⟩ | ⟨h1, h2, h3⟩
  · exact .inl ⟨h1, h2, h.step hs h3 h2, h4⟩
  · exact .inr ⟨h1, h2, h.step hs h3 h.le⟩
/-- What length answers. -/
def LenA (lo hi r : Nat) (b : Value) (B : List UInt8) (w : World) (p : Nat) (m e : Int) (L : List UInt8) (x : Ending) (w' : World) : Prop :=
  ∃ n : Nat, x = .returned (.int .i64 (n : Int)) ∧ Sole r w w' ∧
      ((e = 0 ∧ p + 8 ≤ B.length ∧ n = leN L ∧ n ≤ 2097152 ∧ Rs lo hi r b B w' (p + 8) m 0) ∨
       (e = 0 ∧ p + 8 ≤ B.length ∧ n = 0 ∧ 2097152 < leN L ∧ Rs lo hi r b B w' (p + 8) m 3) ∨
       (¬ (e = 0 ∧ p + 8 ≤ B.length) ∧ n = 0 ∧ Rs lo hi r b B w' p m (orE e 2)))
set_option maxRecDepth 20000 in
set_option maxHeartbeats 1000000 in
theorem length_any (lo hi r : Nat) (b : Value) (B : List UInt8) (w : World) (p : Nat) (m e : Int) (h : Rs lo hi r b B w p m e) :
    Calls Try.prog 94 #[.pointer (some ⟨r, 0, none⟩)] w (LenA lo hi r b B w p m e ((B.drop p).take 8)) := by
  have HT := hide (take_rs lo hi r b B w p 8 m e h (by omega))
  have HR := hide h
  obtain ⟨L, hL⟩ : ∃ L, L = (B.drop p).take 8 := ⟨_, rfl⟩
  rw [← hL]
  have HL := hide hL
  clear h hL
  go_enter Try.func94, Try.ntmps94
  go_wp2_with fail
  refine (unhide HT).mono ?_
  rintro x w1 ⟨v, rfl, hs, hh⟩
  rcases hh with ⟨rfl, h2, h3, h4⟩ | ⟨h1, rfl, h3⟩
  · have hl8 : L.length = 8 := by rw [unhide HL]; simp; omega
    have hrow := h3.piece h4
    rw [← unhide HL] at hrow
    obtain ⟨_, a1, _, _, d, rfl, rfl, hd, _, _⟩ := h4
    obtain ⟨g, o, rfl, _, _, hcell⟩ := hrow.at (by omega)
    have H8 := hide hl8
    have hcs : ∀ i, i < 8 → ∃ x : UInt8, L[i]? = some x ∧ w1.cell? ⟨g, o + i, none⟩ = some (.int .u8 (x.toNat : Int)) := by
      intro i hi
      have hx : L[i]? = some L[i] := List.getElem?_eq_getElem (by omega)
      exact ⟨_, hx, hcell i _ (by unfold bv; rw [List.getElem?_map, hx]; rfl)⟩
    have HC := hide hcs
    have HZ := hide (And.intro hs h3)
    clear hs h3 hrow hcell hcs
    go_wp2_with fail
    go_loopw [9, 3] (fun vi vn wr => ∃ i : Nat, i ≤ 8 ∧ vi = .int .i64 (i : Int) ∧ vn = .int .u64 ((leN (L.take i) : Nat) : Int) ∧ wr = w1) (fun vi _ _ => 8 - (intOf vi).toNat)
    case atStart => exact ⟨0, by omega, rfl, rfl, rfl⟩
    case round =>
      obtain ⟨i, hi, rfl, rfl, rfl⟩ := hrel
      by_cases hlt : i < 8
      · obtain ⟨x, hx, hxc⟩ := unhide HC i hlt
        have hn := leN_lt (L.take i)
        have hl : (L.take i).length = i := by rw [List.length_take, unhide H8]; omega
        rw [hl] at hn
        have hq := bits_le _ i x hn hlt
        have hsn : leN (L.take (i + 1)) = leN (L.take i) + 256 ^ i * x.toNat := by
          rw [List.take_add_one, hx, Option.toList_some, leN_snoc, hl]
        rw [← hsn] at hq
        have HQ := hide hq
        clear hq hn hsn hl hx
        go_wp2_with fail
        go_roundw
        case rel => exact ⟨i + 1, by omega, by go_num, by rw [unhide HQ], by trivial⟩
        case measure => simp [intOf]; try omega
      · obtain rfl : i = 8 := by omega
        have hlen : leN (L.take 8) = leN L := by rw [List.take_of_length_le (by rw [unhide H8]; omega)]
        rw [hlen]
        have hlt64 : leN L < 18446744073709551616 := by have := leN_lt L; rw [unhide H8] at this; simpa using this
        clear hlen
        by_cases hbig : leN L ≤ 2097152
        · go_wp2_with fail
          go_ret
          exact ⟨leN L, rfl, (unhide HZ).1, .inl ⟨rfl, h2, rfl, hbig, (unhide HZ).2⟩⟩
        · go_wp2_with fail
          refine (fail_any r _ _ m 0 3 _ (unhide HZ).2.rx).mono ?_
          rintro x w2 ⟨rfl, hs2, hr2⟩
          have HY := hide (And.intro ((unhide HZ).1.trans hs2) ((unhide HZ).2.step hs2 hr2 h2))
          clear hs2 hr2
          go_wp2_with fail
          go_ret
          exact ⟨0, rfl, (unhide HY).1, .inr (.inl ⟨rfl, h2, rfl, by omega, (unhide HY).2⟩)⟩
  · have HZ := hide (And.intro hs h3)
    clear hs h3
    go_wp2_with fail
    go_loopw [9, 3] (fun vi vn wr => vi = .int .i64 0 ∧ vn = .int .u64 0 ∧ wr = w1) (fun _ _ _ => 0)
    case atStart => exact ⟨rfl, rfl, rfl⟩
    case round =>
      obtain ⟨rfl, rfl, rfl⟩ := hrel
      go_wp2_with fail
      go_ret
      exact ⟨0, rfl, (unhide HZ).1, .inr (.inr ⟨h1, rfl, (unhide HZ).2⟩)⟩
end Go.Proofs.Ytikamklgelcnhaa
/- The reader's text. -/
namespace Go.Proofs.Ytikamklgelcnhaa
open Go.RowKit
set_option linter.unusedSimpArgs false
theorem piece_lo {b : Value} {a1 : Option Addr} {i n d k : Nat} (h : Piece b (.slice a1 n d) i n) (hk : k ≤ n) : ∃ a2, (∀ w, (sl22 (.slice a1 n d) (some (.int .i64 (k : Int))) none none).run Try.prog w = .ok (.slice a2 (n - k) (d - k)) w) ∧ Piece b (.slice a2 (n - k) (d - k)) (i + k) (n - k) := by
  obtain ⟨a, _, N, c, _, rfl, he, h1, h2, h3⟩ := h
  cases he
  refine ⟨if d = k then a1 else a1.map (·.add (k * 1)), fun w => ?_, a, _, N, c, d - k, rfl, rfl, by omega, by omega, fun lo hi w xs hx hr => ?_⟩
  · unfold sl22
    rw [run_slice_l w 22 a1 n d ht22' .i64 (k : Int) (by omega) (by omega)]
    rw [elem22']
    simp [Try.sizeOf5, Result.andThen, sliced]
  · have := row_drop (size := 1) (h3 lo hi w xs hx hr) hk (if d = k then a1 else a1.map (·.add (k * 1))) (fun g o h e => by subst e; rw [if_neg (by omega)]; simp [addr_mid]) h1
    simp only [Nat.mul_one] at this ⊢
    rw [List.drop_take, List.drop_drop] at this
    exact this
theorem piece_hi {b : Value} {a1 : Option Addr} {i n d k : Nat} (h : Piece b (.slice a1 n d) i n) (hk : k ≤ n) : ∃ a2, (∀ w, (sl22 (.slice a1 n d) none (some (.int .i64 (k : Int))) none).run Try.prog w = .ok (.slice a2 k d) w) ∧ Piece b (.slice a2 k d) i k := by
  obtain ⟨a, _, N, c, _, rfl, he, h1, h2, h3⟩ := h
  cases he
  refine ⟨if d = 0 then a1 else a1.map (·.add (0 * 1)), fun w => ?_, a, _, N, c, d, rfl, rfl, by omega, by omega, fun lo hi w xs hx hr => ?_⟩
  · unfold sl22
    rw [run_slice_h w 22 a1 n d ht22' .i64 (k : Int) (by omega) (by omega)]
    rw [elem22']
    simp [Try.sizeOf5, Result.andThen, sliced]
  · have := row_take (size := 1) (h3 lo hi w xs hx hr) hk (if d = 0 then a1 else a1.map (·.add (0 * 1))) (fun g o e => by subst e; split <;> simp [addr_mid]) h1
    simp only [Nat.mul_one] at this ⊢
    rw [List.take_take, Nat.min_eq_left hk] at this
    exact this
/-- The next text's length, or the error. -/
def rdT (l : List UInt8) : Except Int Nat :=
  if l.length < 8 then .error 2
  else if 2097152 < leN (l.take 8) then .error 3
  else if l.length < 8 + leN (l.take 8) + padN (leN (l.take 8)) then .error 2
  else if ((l.drop (8 + leN (l.take 8))).take (padN (leN (l.take 8)))).all (· == 0) then .ok (leN (l.take 8)) else .error 3
/-- What text answers. -/
def TxA (lo hi r : Nat) (b : Value) (B : List UInt8) (w : World) (p : Nat) (m e : Int) (x : Ending) (w' : World) : Prop :=
  ∃ v, x = .returned v ∧ Sole r w w' ∧
    ((∃ n, e = 0 ∧ rdT (B.drop p) = .ok n ∧ Rs lo hi r b B w' (p + 8 + n + padN n) m 0 ∧ Piece b v (p + 8) n) ∨
     (∃ (E : Int) (p' : Nat), E ≠ 0 ∧ (e = 0 → rdT (B.drop p) = .error E) ∧ (e ≠ 0 → E = e) ∧ v = .slice none 0 0 ∧ Rs lo hi r b B w' p' m E))
attribute [local go_sem ↓] slice_sl22
/-- What is left of text, once the length is known and in bounds. -/
theorem rdT_short {l : List UInt8} (h : l.length < 8) : rdT l = .error 2 := by unfold rdT; rw [if_pos h]
theorem rdT_long {l : List UInt8} (h : 8 ≤ l.length) (h2 : 2097152 < leN (l.take 8)) : rdT l = .error 3 := by unfold rdT; rw [if_neg (by omega), if_pos h2]
theorem rdT_cut {l : List UInt8} {n : Nat} (h : 8 ≤ l.length) (hn : n = leN (l.take 8)) (h2 : n ≤ 2097152) (h3 : l.length < 8 + n + padN n) : rdT l = .error 2 := by subst hn; unfold rdT; rw [if_neg (by omega), if_neg (by omega), if_pos h3]
theorem rdT_ok {l : List UInt8} {n : Nat} (h : 8 ≤ l.length) (hn : n = leN (l.take 8)) (h2 : n ≤ 2097152) (h3 : 8 + n + padN n ≤ l.length) (h4 : ((l.drop (8 + n)).take (padN n)).all (· == 0) = true) : rdT l = .ok n := by subst hn; unfold rdT; rw [if_neg (by omega), if_neg (by omega), if_neg (by omega), if_pos h4]
theorem rdT_pad {l : List UInt8} {n : Nat} (h : 8 ≤ l.length) (hn : n = leN (l.take 8)) (h2 : n ≤ 2097152) (h3 : 8 + n + padN n ≤ l.length) (h4 : ¬ ((l.drop (8 + n)).take (padN n)).all (· == 0) = true) : rdT l = .error 3 := by subst hn; unfold rdT; rw [if_neg (by omega), if_neg (by omega), if_neg (by omega), if_neg h4]
set_option maxRecDepth 20000 in
set_option maxHeartbeats 1000000 in
theorem text_any (lo hi r : Nat) (b : Value) (B : List UInt8) (w : World) (p : Nat) (m e : Int) (h : Rs lo hi r b B w p m e) :
    Calls Try.prog 79 #[.pointer (some ⟨r, 0, none⟩)] w (TxA lo hi r b B w p m e) := by
  have HT := hide (length_any lo hi r b B w p m e h)
  have hBd : (B.drop p).length = B.length - p := List.length_drop
  have hle := h.le
  clear h
  go_enter Try.func79, Try.ntmps79
  go_wp2_with fail
  refine (unhide HT).mono ?_
  rintro x w1 ⟨n, rfl, hs, hh⟩
  have hn : n ≤ 2097152 := by rcases hh with ⟨_, _, _, h4, _⟩ | ⟨_, _, h3, _, _⟩ | ⟨_, h2, _⟩ <;> omega
  have hp7 : padN n ≤ 7 := by unfold padN; omega
  -- what the second take finds
  have HK : Hid (∃ (q : Nat) (E : Int), Rs lo hi r b B w1 q m E ∧ ((e = 0 ∧ E = 0 ∧ q = p + 8 ∧ p + 8 ≤ B.length ∧ n = leN ((B.drop p).take 8)) ∨ (E ≠ 0 ∧ (e = 0 → rdT (B.drop p) = .error E) ∧ (e ≠ 0 → E = e)))) := by
    rcases hh with ⟨h1, h2, h3, h4, h5⟩ | ⟨h1, h2, h3, h4, h5⟩ | ⟨h1, h2, h3⟩
    · exact ⟨p + 8, 0, h5, .inl ⟨h1, rfl, rfl, h2, h3⟩⟩
    · exact ⟨p + 8, 3, h5, .inr ⟨by omega, fun _ => rdT_long (by omega) h4, fun h => absurd h1 h⟩⟩
    · refine ⟨p, orE e 2, h3, .inr ⟨by unfold orE; split <;> omega, fun he => ?_, fun he => orE_ne he⟩⟩
      subst he
      rw [orE_zero]
      exact rdT_short (by simp at h1; omega)
  clear hh HT
  obtain ⟨q, E, hR, hc⟩ := unhide HK
  clear HK
  have HC := hide hc
  have HS := hide hs
  have HP := hide (padding_any n w1 (by omega))
  have HT2 := hide (take_rs lo hi r b B w1 q (n + padN n) m E hR (by omega))
  have HR := hide hR
  clear hR hs hc
  generalize hpn : padN n = k at *
  have HN := hide hpn
  clear hpn
  go_wp2_with fail
  refine (unhide HP).mono ?_
  rintro x w2 ⟨rfl, rfl⟩
  clear HP
  go_wp2_with fail
  rw [← Int.natCast_add]
  refine (unhide HT2).mono ?_
  rintro x w3 ⟨v, rfl, hs3, hh⟩
  clear HT2
  rcases hh with ⟨rfl, h2, h3, h4⟩ | ⟨h1, rfl, h3⟩
  · obtain ⟨c0, c1, c2, c3⟩ := h3.rx.cells
    have HC' : Hid (e = 0 ∧ q = p + 8 ∧ p + 8 ≤ B.length ∧ n = leN ((B.drop p).take 8)) := by
      rcases unhide HC with ⟨h5, _, h6, h7, h8⟩ | ⟨h5, _⟩
      · exact ⟨h5, h6, h7, h8⟩
      · exact absurd rfl h5
    obtain ⟨_, a1, _, _, d, _, rfl, hd, _, _⟩ := id h4
    obtain ⟨a2, hrun2, hP2⟩ := piece_lo h4 (k := n) (by omega)
    obtain ⟨a3, hrun3, hP3⟩ := piece_hi h4 (k := n) (by omega)
    rw [Nat.add_sub_cancel_left] at hrun2 hP2
    have hrow := h3.piece hP2
    obtain ⟨Pd, hPd⟩ : ∃ Pd, Pd = (B.drop (q + n)).take k := ⟨_, rfl⟩
    have hPl : Pd.length = k := by rw [hPd]; simp; omega
    rw [← hPd] at hrow
    have HA : Hid (0 < k → ∃ g o, a2 = some ⟨g, o, none⟩ ∧ ∀ i, i < k → ∃ x : UInt8, Pd[i]? = some x ∧ w3.cell? ⟨g, o + i, none⟩ = some (.int .u8 (x.toNat : Int))) := by
      intro hk
      obtain ⟨g, o, ha, _, _, hcell⟩ := hrow.at hk
      refine ⟨g, o, ha, fun i hi => ?_⟩
      have hx : Pd[i]? = some Pd[i] := List.getElem?_eq_getElem (by omega)
      exact ⟨_, hx, hcell i _ (by unfold bv; rw [List.getElem?_map, hx]; rfl)⟩
    have HB : Hid (Pd.length = k ∧ Pd = (B.drop (q + n)).take k) := ⟨hPl, hPd⟩
    have HZ := hide (And.intro ((unhide HS).trans hs3) h3)
    have H3 := hide hP3
    clear hs3 h3 hrow hPl hPd hP2 hP3 h4 HC HR
    go_wp2_with fail
    go_loopw [24] (fun vi wr => ∃ i : Nat, i ≤ k ∧ vi = .int .i64 (i : Int) ∧ wr = w3 ∧ Hid ((Pd.take i).all (· == 0) = true)) (fun vi _ => k - (intOf vi).toNat)
    case atStart => exact ⟨0, by omega, rfl, rfl, by show _ = _; simp⟩
    case round =>
      obtain ⟨i, hi, rfl, rfl, hz⟩ := hrel
      by_cases hlt : i < k
      · obtain ⟨g, o, ha, hc⟩ := unhide HA (by omega)
        obtain ⟨x, hx, hxc⟩ := hc i hlt
        clear hc hrun2
        subst ha
        by_cases hx0 : x = 0
        · subst hx0
          have H4 : Hid ((Pd.take (i + 1)).all (· == 0) = true) := by
            show _ = _
            rw [List.take_add_one, hx, List.all_append, unhide hz]; rfl
          clear hz hx
          have hxc' : wr.cell? ⟨g, o + i, none⟩ = some (.int .u8 0) := hxc
          clear hxc
          go_wp2_with fail
          go_roundw
          case rel => exact ⟨i + 1, by omega, by go_num, by trivial, unhide H4⟩
          case measure => simp [intOf]; try omega
        · have hxb : ((x.toNat : Int) == 0) = false := by
            rw [beq_eq_false_iff_ne]; intro h; exact hx0 (UInt8.toNat_inj.1 (by simpa using h))
          have HW : Hid (rdT (B.drop p) = .error 3) := by
            obtain ⟨h5, h6, h7, h8⟩ := unhide HC'
            have hk := unhide HN
            refine rdT_pad (by omega) h8 hn (by omega) ?_
            rw [hk, List.drop_drop, show p + (8 + n) = q + n by omega, ← (unhide HB).2]
            intro hall
            have := List.all_eq_true.1 hall x (List.mem_of_getElem? hx)
            exact hx0 (by simpa using this)
          clear hz hx
          go_wp2_with fail
          refine (fail_any r _ _ m 0 3 _ (unhide HZ).2.rx).mono ?_
          rintro x' w4 ⟨rfl, hs4, hr4⟩
          have HY := hide (And.intro ((unhide HZ).1.trans hs4) ((unhide HZ).2.step hs4 hr4 (unhide HZ).2.le))
          clear hs4 hr4
          go_wp2_with fail
          go_ret
          exact ⟨_, rfl, (unhide HY).1, .inr ⟨3, _, by omega, fun _ => unhide HW, fun he => absurd (unhide HC').1 he, rfl, (unhide HY).2⟩⟩
      · obtain rfl : k = i := by omega
        have HW : Hid (rdT (B.drop p) = .ok n) := by
          obtain ⟨h5, h6, h7, h8⟩ := unhide HC'
          have hk := unhide HN
          refine rdT_ok (by omega) h8 hn (by omega) ?_
          rw [hk, List.drop_drop, show p + (8 + n) = q + n by omega, ← (unhide HB).2]
          have := unhide hz
          rwa [List.take_of_length_le (by rw [(unhide HB).1]; omega)] at this
        go_wp2_with fail
        go_ret
        obtain ⟨h5, h6, h7, h8⟩ := unhide HC'
        subst h6
        refine ⟨_, rfl, (unhide HZ).1, .inl ⟨n, h5, unhide HW, ?_, unhide H3⟩⟩
        rw [unhide HN, Nat.add_assoc]
        exact (unhide HZ).2
  · obtain ⟨c0, c1, c2, c3⟩ := h3.rx.cells
    have hE : orE E 2 ≠ 0 := by unfold orE; split <;> omega
    have HZ : Hid (TxA lo hi r b B w p m e (.returned (.slice none 0 0)) w3) := by
      refine ⟨_, rfl, (unhide HS).trans hs3, .inr ⟨orE E 2, q, hE, fun he => ?_, fun he => ?_, rfl, h3⟩⟩
      · rcases unhide HC with ⟨h5, rfl, rfl, h6, h7⟩ | ⟨h5, h6, h7⟩
        · rw [orE_zero]
          have := unhide HN
          exact rdT_cut (by omega) h7 hn (by rw [this]; simp at h1; omega)
        · rw [orE_ne h5]; exact h6 he
      · rcases unhide HC with ⟨h5, rfl, rfl, h6, h7⟩ | ⟨h5, h6, h7⟩
        · exact absurd h5 he
        · rw [orE_ne h5]; exact h7 he
    generalize orE E 2 = F at *
    have hb : (F == 0) = false := by rw [beq_eq_false_iff_ne]; exact hE
    clear hs3 h3 h1
    go_wp2_with fail
    go_ret
    exact unhide HZ
end Go.Proofs.Ytikamklgelcnhaa
