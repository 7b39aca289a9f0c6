import Derived.Test.YtikamklgelcnhabK4
import Derived.Lib.AppendStr
import Derived.OwnWalk
import Derived.RangeFuncNested
import Derived.RangeFuncBound
import Derived.RangeFuncCalls
import Derived.RangeFuncLeaves
import Derived.Shelf.Abstract
import Derived.Shelf.RegionOpen
import Derived.WalkKit
import Derived.OwnWalkIn
import Derived.TacticsInMore
import Derived.LoopNIn
import Derived.LoopIn
import Derived.Lib.AppendZerosOnto
/- Check, in the document's own answer: a directory and all below. -/
namespace Go.Proofs.Ytikamklgelcnhab
open Go.RowKit
set_option maxRecDepth 20000 in
set_option maxHeartbeats 1000000 in
theorem chkR_any (T : Tr) : ∀ (lo hi : Nat) (cs : List Value) (w : World) (c deep n : Nat), Lies lo hi w T cs → wt T ≤ 100000 → Ctr w c (.int .i64 (n : Int)) → hi ≤ c → n ≤ 65536 → deep ≤ 65 →
    Calls Try.prog 32 #[.agg cs.toArray, .int .i64 (deep : Int), .pointer (some ⟨c, 0, none⟩)] w fun e w' => e = .returned (.int .i64 (((chk T deep n).1 : Nat) : Int)) ∧ Sole c w w' ∧ Ctr w' c (.int .i64 (((chk T deep n).2 : Nat) : Int)) := by
  induction T using Tr.ind with
  | h k x d ns ks ih =>
  intro lo hi cs w c deep n hL hW hC hhi hn0 hd0
  by_cases hflat : k ≠ 2 ∨ 65536 < n + 1 ∨ 64 < deep
  · exact chkR_flat k x d ns ks lo hi cs w c deep n hL hW hC hhi hn0 hd0 hflat
  obtain rfl : k = 2 := by
    by_cases h : k = 2
    · exact h
    · exact absurd (.inl h) hflat
  have hbig : ¬ (65536 < n + 1 ∨ 64 < deep) := fun h => hflat (.inr h)
  clear hflat
  by_cases hodd : (x = true ∨ 0 < d.size ∨ ns.length ≠ ks.length) ∨ ns.length = 0
  · exact chkR_odd x d ns ks lo hi cs w c deep n hL hW hC hhi hn0 hd0 hbig hodd
  have hform : ¬ (x = true ∨ 0 < d.size ∨ ns.length ≠ ks.length) := fun h => hodd (.inl h)
  have hn3 : 0 < ns.length := by
    have : ¬ ns.length = 0 := fun h => hodd (.inr h)
    omega
  clear hodd
  have hSm := small_of hW
  cases hL with
  | mk _ _ _ _ _ vd vn vk Ks hl hd hn hk hK =>
  obtain ⟨ad, cd, rfl, hcd⟩ := hd.slice
  obtain ⟨an, cn, rfl, hcn⟩ := hn.slice
  obtain ⟨ak, ck, rfl, hck⟩ := hk.slice
  have hcl := hC.lt
  obtain ⟨z, hz⟩ : ∃ z : Int, z = (n : Int) := ⟨_, rfl⟩
  rw [← hz] at hC
  have HC := hide hC
  have hkl := hSm.k
  obtain ⟨hcc, hcf⟩ := hC
  have hS0 : Sole c w ((w.setCell ⟨c, 0, none⟩ (.int .i64 (z + 1))).alloc (.cells #[.int .i64 2, .bool x, .slice ad d.size cd, .slice an ns.length cn, .slice ak ks.length ck] 26)) := (((Sole.refl c w).setCell 0 _).alloc _)
  have hB0 : Bx ((w.setCell ⟨c, 0, none⟩ (.int .i64 (z + 1))).alloc (.cells #[.int .i64 2, .bool x, .slice ad d.size cd, .slice an ns.length cn, .slice ak ks.length ck] 26)) w.heap.size (.int .i64 2) (.bool x) (.slice ad d.size cd) (.slice an ns.length cn) (.slice ak ks.length ck) := bx_new' _ _ _ _ _ _ _ _
  have hC0 : Ctr ((w.setCell ⟨c, 0, none⟩ (.int .i64 (z + 1))).alloc (.cells #[.int .i64 2, .bool x, .slice ad d.size cd, .slice an ns.length cn, .slice ak ks.length ck] 26)) c (.int .i64 (z + 1)) :=
    ((unhide HC).set (.int .i64 (z + 1))).below ((Below.refl w.heap.size _).alloc (by simp) (.cells #[.int .i64 2, .bool x, .slice ad d.size cd, .slice an ns.length cn, .slice ak ks.length ck] 26)) hcl
  have H0 := hide (And.intro hS0 (And.intro hB0 hC0))
  have HH : Hid (∀ v0 v1 v2 v3 v4, Sole c w ((w.setCell ⟨c, 0, none⟩ (.int .i64 (z + 1))).alloc (.cells #[v0, v1, v2, v3, v4] 26)) ∧ Ctr ((w.setCell ⟨c, 0, none⟩ (.int .i64 (z + 1))).alloc (.cells #[v0, v1, v2, v3, v4] 26)) c (.int .i64 (z + 1))) := fun v0 v1 v2 v3 v4 =>
    ⟨(((Sole.refl c w).setCell 0 _).alloc _), ((unhide HC).set (.int .i64 (z + 1))).below ((Below.refl w.heap.size _).alloc (by simp) (.cells #[v0, v1, v2, v3, v4] 26)) hcl⟩
  clear hS0 hB0 hC0
  obtain ⟨E, M, hEM⟩ : ∃ E M, chk (.mk 2 x d ns ks) deep n = (E, M) := ⟨_, _, rfl⟩
  rw [hEM]
  simp only
  have HEM := hide hEM
  clear hEM
  have hn1 : z ≤ 1000000 := by omega
  have hn2 : 0 ≤ z := by omega
  have HZ : Hid (((n + 1 : Nat) : Int) = z + 1) := by show ((n + 1 : Nat) : Int) = z + 1; omega
  have hd1 : (deep : Int) ≤ 1000 := by omega
  have hkl1 : (ks.length : Int) ≤ 1000000 := by omega
  have hbig1 : ¬ (65536 : Int) < z + 1 := by omega
  have hbig2 : ¬ (64 : Int) < (deep : Int) := by omega
  have HNb : Hid (n + 1 ≤ 65536) := by show n + 1 ≤ 65536; omega
  have HD0 := hide (show deep ≤ 64 by omega)
  obtain ⟨rfl, hd6, hlen⟩ : x = false ∧ d.size = 0 ∧ ns.length = ks.length := by
    refine ⟨?_, ?_, ?_⟩
    · cases x
      · rfl
      · exact absurd (.inl rfl) hform
    · by_cases h : d.size = 0
      · exact h
      · exact absurd (.inr (.inl (by omega))) hform
    · by_cases h : ns.length = ks.length
      · exact h
      · exact absurd (.inr (.inr h)) hform
  clear hform
  have HY : Hid (okNames ns → chks ks (deep + 1) (n + 1) = (E, M)) := fun hok => by
    rw [← unhide HEM, chk, if_neg hbig, hd6, ← hlen, if_pos (loc_dir_ok hok)]
  have HX : Hid (¬ okNames ns → (9, n + 1) = (E, M)) := fun hok => by
    rw [← unhide HEM, chk, if_neg hbig, hd6, ← hlen, loc_dir_no hok, if_neg (by omega)]
  clear HEM
  have HSm := hide hSm
  have HR := hide (And.intro hn (And.intro hk (And.intro hl hK)))
  clear hd hn hk hK hl hSm hW hbig hn0 hd0 hkl hz
  rw [hd6] at H0
  obtain ⟨L, hLn⟩ : ∃ L, ns.length = L := ⟨_, rfl⟩
  have hLk : ks.length = L := by rw [← hlen]; exact hLn
  clear hlen
  rw [hLn] at hn3 hcn HR H0
  rw [hLk] at hkl1 hck HR H0
  have HL := hide (And.intro hLn hLk)
  rw [hd6, hLn, hLk]
  clear hLn hLk hd6 hcd
  go_enter Try.func32, Try.ntmps32
  go_wp2_with fail
  obtain ⟨hS0, hB0, hC0⟩ := unhide H0
  clear H0 HH hcc hcf HC
  generalize (w.setCell ⟨c, 0, none⟩ (.int .i64 (z + 1))).alloc (.cells #[.int .i64 2, .bool false, .slice ad 0 cd, .slice an L cn, .slice ak L ck] 26) = w1 at *
  rw [← unhide HZ] at hC0
  go_loopw [8] (fun vi wr => ∃ i : Nat, i ≤ L ∧ vi = .int .i64 (i : Int) ∧ Sole c w wr ∧ Ctr wr c (.int .i64 ((n + 1 : Nat) : Int)) ∧ Bx wr w.heap.size (.int .i64 2) (.bool false) (.slice ad 0 cd) (.slice an L cn) (.slice ak L ck) ∧ Hid (∀ j, j < i → okName ns j = true)) (fun vi _ => L - (intOf vi).toNat)
  case atStart => exact ⟨0, by omega, rfl, hS0, hC0, hB0, fun j h => by omega⟩
  case round =>
    clear hS0 hC0 hB0
    obtain ⟨i, hin, rfl, hS, hC, hB, hall⟩ := hrel
    obtain ⟨c0, c1, c2, c3, c4⟩ := hB.cells
    by_cases hltL : i < L
    · have hlt : i < ns.length := by rw [(unhide HL).1]; exact hltL
      obtain ⟨g, o, rfl, hg1, hg2, hcell⟩ := (unhide HR).1.at hn3
      have hbel := hS.below (base := hi) hhi (by omega)
      have hci : wr.cell? ⟨g, o + i, none⟩ = some (.string ns[i]) := by rw [hbel.cell (p := ⟨g, o + i, none⟩) hg2]; exact hcell i _ (by simp [List.getElem?_eq_getElem hlt])
      have hsi := (unhide HSm).s ns[i] (List.getElem_mem hlt)
      have HEn := hide (fun w => entR_any ns[i] w (by omega))
      have HF := hide (fun (h : ¬ okNames ns) => unhide HX h)
      have HW := hide (And.intro hS (And.intro hC hB))
      clear hS hC hB
      cases i with
      | zero =>
        have HO := hide (okName_first hlt)
        have HLT := hide hlt
        simp only [Nat.add_zero] at hci
        clear hcell
        generalize ns[0] = s at *
        clear hlt
        cases hent : entB s
        case false =>
          have h9 := unhide HF (fun h => by have := h 0 (unhide HLT); rw [unhide HO, hent] at this; simp at this)
          obtain ⟨rfl, rfl⟩ := Prod.mk.inj h9
          rw [hent] at HEn
          clear h9 HF HX HY HO HLT HSm HL ih hsi hbel hall
          go_wp2_with fail
          go_quiet ((go_at_call 47; exact Calls.quiet_of_same (unhide HEn _)))
          go_wp2_with fail
          go_ret
          exact ⟨rfl, (unhide HW).1.drewN _, (unhide HW).2.1.drewN _⟩
        case true =>
          rw [hent] at HEn
          clear HF HX HY HSm ih hsi hbel
          go_wp2_with fail
          go_quiet ((go_at_call 47; exact Calls.quiet_of_same (unhide HEn _)))
          go_wp2_with fail
          go_roundw
          case rel =>
            refine ⟨1, by omega, by go_num, (unhide HW).1.drewN _, (unhide HW).2.1.drewN _, (unhide HW).2.2.drewN _, fun j hj => ?_⟩
            obtain rfl : j = 0 := by omega
            rw [unhide HO, hent]
          case measure => simp [intOf]; omega
      | succ i =>
        have hcj : wr.cell? ⟨g, o + i, none⟩ = some (.string (ns.getD i ⟨#[]⟩)) := by
          rw [hbel.cell (p := ⟨g, o + i, none⟩) hg2]
          exact hcell i _ (by simp [List.getElem?_eq_getElem (show i < ns.length by omega), List.getD_eq_getElem?_getD])
        have HO := hide (okName_next hlt)
        have HLT := hide hlt
        clear hcell
        generalize ns.getD i ⟨#[]⟩ = q at *
        generalize ns[i + 1] = s at *
        clear hlt
        cases hent : entB s
        case false =>
          have h9 := unhide HF (fun h => by have := h (i + 1) (unhide HLT); rw [unhide HO, hent] at this; simp at this)
          obtain ⟨rfl, rfl⟩ := Prod.mk.inj h9
          rw [hent] at HEn
          clear h9 HF HX HY HO HLT HSm HL ih hsi hbel hall
          go_wp2_with fail
          go_quiet ((go_at_call 47; exact Calls.quiet_of_same (unhide HEn _)))
          go_wp2_with fail
          go_ret
          exact ⟨rfl, (unhide HW).1.drewN _, (unhide HW).2.1.drewN _⟩
        case true =>
          rw [hent] at HEn
          clear HSm ih hsi hbel
          go_wp2_with fail
          go_quiet ((go_at_call 47; exact Calls.quiet_of_same (unhide HEn _)))
          go_wp2_with fail
          · rename_i hle
            have hno : ¬ okNames ns := fun h => by have := h (i + 1) (unhide HLT); rw [unhide HO, hent] at this; exact less_yes hle (by simpa using this)
            have h9 := unhide HF hno
            obtain ⟨rfl, rfl⟩ := Prod.mk.inj h9
            go_ret
            exact ⟨rfl, (unhide HW).1.drewN _, (unhide HW).2.1.drewN _⟩
          · rename_i hle
            have HYe : Hid (okName ns (i + 1) = true) := by show okName ns (i + 1) = true; rw [unhide HO, hent]; simpa using less_no hle
            clear HF HX HY
            go_roundw
            case rel =>
              refine ⟨i + 1 + 1, by omega, by go_num, (unhide HW).1.drewN _, (unhide HW).2.1.drewN _, (unhide HW).2.2.drewN _, fun j hj => ?_⟩
              by_cases e : j = i + 1
              · subst e; exact unhide HYe
              · exact unhide hall j (by omega)
            case measure => simp [intOf]; omega
    · have HE' : Hid (chks ks (deep + 1) (n + 1) = (E, M)) := unhide HY (fun j hj => unhide hall j (by have := (unhide HL).1; omega))
      clear HY HX hall
      go_wp2_with fail
      clear c0 c1 c2 c3 c4
      have HT := hide (unhide HSm).t
      have HW := hide (And.intro hS (And.intro hC hB))
      clear hS hC hB HSm
      generalize wr = w2 at *
      go_loopw [9] (fun vi wr => ∃ i m : Nat, i ≤ L ∧ vi = .int .i64 (i : Int) ∧ Sole c w wr ∧ Bx wr w.heap.size (.int .i64 2) (.bool false) (.slice ad 0 cd) (.slice an L cn) (.slice ak L ck) ∧ Ctr wr c (.int .i64 (m : Int)) ∧ Hid (m ≤ 65536) ∧ Hid (chks (ks.drop i) (deep + 1) m = (E, M))) (fun vi _ => L - (intOf vi).toNat)
      case atStart => exact ⟨0, n + 1, by omega, rfl, (unhide HW).1, (unhide HW).2.2, (unhide HW).2.1, HNb, HE'⟩
      case round =>
        obtain ⟨i, m, hik, rfl, hS, hB, hC, hm, hq⟩ := hrel
        obtain ⟨c0, c1, c2, c3, c4⟩ := hB.cells
        by_cases hlt : i < L
        · have hltk : i < ks.length := by rw [(unhide HL).2]; exact hlt
          obtain ⟨g, o, rfl, hg1, hg2, hcell⟩ := (unhide HR).2.1.at hn3
          obtain ⟨hl, hK⟩ := (unhide HR).2.2
          have hbel := hS.below (base := hi) hhi (by omega)
          have hcell' : ∀ j u, Ks.flatten[j]? = some u → wr.cell? ⟨g, o + j, none⟩ = some u := fun j u hj => by rw [hbel.cell (p := ⟨g, o + j, none⟩) hg2]; exact hcell j u hj
          obtain ⟨k', x', a1, n1, c1', a2, n2, c2', a3, n3, c3', hLi, z0, z1, z2, z3, z4⟩ := kid_sl (hl.trans (unhide HL).2.symm) hcell' (fun i t c h1 h2 => (hK i t c h1 h2).kept hbel (Nat.le_refl _)) i hltk
          have hzr := hS.size
          have HI := hide (ih ks[i] (List.getElem_mem hltk) lo hi _ wr c (deep + 1) m hLi (unhide HT _ (List.getElem_mem hltk)) hC hhi (unhide hm) (by have := unhide HD0; omega))
          have HQ := hide (chks_step ks i (deep + 1) m hltk)
          have HM := hide (chk_ok ks[i] (deep + 1) m)
          clear hcell hcell' hl hK hLi hC hbel
          generalize ks[i] = t at *
          clear hltk
          go_wp2_with fail
          refine (unhide HI).mono ?_
          rintro e w3 ⟨rfl, hS3, hC3⟩
          have hS4 : Sole c w w3 := hS.trans hS3
          have hB4 := hB.sole hS3 (by omega)
          clear hS3 HI z0 z1 z2 z3 z4
          by_cases he : (chk t (deep + 1) m).1 = 0
          · have hq' : Hid (chks (ks.drop (i + 1)) (deep + 1) (chk t (deep + 1) m).2 = (E, M)) := by
              have h := unhide HQ
              rw [if_pos he, unhide hq] at h
              exact h.symm
            have hm' : Hid ((chk t (deep + 1) m).2 ≤ 65536) := unhide HM he
            rw [he]
            clear HQ HM he hq hm
            generalize (chk t (deep + 1) m).2 = m' at *
            have HS4 := hide (And.intro hS4 (And.intro hB4 hC3))
            clear hC3 hS4 hB4
            go_wp2_with fail
            go_roundw
            case rel => exact ⟨i + 1, m', by omega, by go_num, (unhide HS4).1, (unhide HS4).2.1, (unhide HS4).2.2, hm', hq'⟩
            case measure => simp [intOf]; omega
          · have h := unhide HQ
            rw [if_neg he, unhide hq] at h
            have hne : ((((chk t (deep + 1) m).1 : Nat) : Int) == 0) = false := by rw [beq_eq_false_iff_ne]; omega
            rw [← h] at hC3 hne ⊢
            clear HQ HM he hq hm h
            go_wp2_with fail
            go_ret
            exact ⟨rfl, hS4, hC3⟩
        · obtain rfl : i = L := by omega
          have HF := unhide hq
          rw [← (unhide HL).2, chks_end] at HF
          obtain ⟨rfl, rfl⟩ := Prod.mk.inj HF
          clear HF hq HE'
          go_wp2_with fail
          go_ret
          exact ⟨rfl, hS, hC⟩
end Go.Proofs.Ytikamklgelcnhab
/- Check, in the code and in the document's own answer: one and the same. -/
namespace Go.Proofs.Ytikamklgelcnhab
open Go.RowKit
theorem Lies.form {lo hi : Nat} {w : World} {T : Tr} {cs : List Value} (h : Lies lo hi w T cs) : ∃ k x a1 n1 c1 a2 n2 c2 a3 n3 c3, cs = [.int .i64 k, .bool x, .slice a1 n1 c1, .slice a2 n2 c2, .slice a3 n3 c3] := by
  cases h with
  | mk k x d ns ks vd vn vk Ks hl hd hn hk hK =>
    obtain ⟨a1, c1, rfl, _⟩ := hd.slice
    obtain ⟨a2, c2, rfl, _⟩ := hn.slice
    obtain ⟨a3, c3, rfl, _⟩ := hk.slice
    exact ⟨k, x, a1, _, c1, a2, _, c2, a3, _, c3, rfl⟩
set_option maxRecDepth 20000 in
set_option maxHeartbeats 1000000 in
theorem check_any (T : Tr) (lo hi : Nat) (cs : List Value) (w : World) (hL : Lies lo hi w T cs) (hW : wt T ≤ 100000) (hhi : hi ≤ w.heap.size) :
    Calls Try.prog 10 #[.agg cs.toArray] w fun e w' => e = .returned (.int .i64 (((chk T 1 0).1 : Nat) : Int)) ∧ Below w.heap.size w w' := by
  obtain ⟨k, x, a1, n1, c1, a2, n2, c2, a3, n3, c3, rfl⟩ := hL.form
  have hb0 : Below w.heap.size w ((w.alloc (.cells #[.int .i64 k, .bool x, .slice a1 n1 c1, .slice a2 n2 c2, .slice a3 n3 c3] 26)).alloc (.cells #[.int .i64 0] 3)) := ((Below.refl _ _).alloc (Nat.le_refl _) _).alloc (by simp) _
  have hC0 : Ctr ((w.alloc (.cells #[.int .i64 k, .bool x, .slice a1 n1 c1, .slice a2 n2 c2, .slice a3 n3 c3] 26)).alloc (.cells #[.int .i64 0] 3)) (w.heap.size + 1) (.int .i64 ((0 : Nat) : Int)) := ⟨by simp [go_sem], by simp [go_sem]⟩
  have HI := hide (chkC_any T lo hi _ _ (w.heap.size + 1) 1 0 (hL.kept hb0 hhi) hW hC0 (by omega) (by omega) (by omega))
  clear hL hC0
  obtain ⟨E, M, hEM⟩ : ∃ E M, chk T 1 0 = (E, M) := ⟨_, _, rfl⟩
  rw [hEM] at HI ⊢
  clear hEM
  go_enter Try.func10, Try.ntmps10
  go_wp2_with fail
  refine (unhide HI).mono ?_
  rintro e w1 ⟨rfl, hS, _⟩
  have hbl : Below w.heap.size w w1 := hb0.trans (hS.below (by omega) (by simp; omega))
  go_wp2_with fail
  go_ret
  exact ⟨rfl, hbl⟩
set_option maxRecDepth 20000 in
set_option maxHeartbeats 1000000 in
theorem checkR_any (T : Tr) (lo hi : Nat) (cs : List Value) (w : World) (hL : Lies lo hi w T cs) (hW : wt T ≤ 100000) (hhi : hi ≤ w.heap.size) :
    Calls Try.prog 18 #[.agg cs.toArray] w fun e w' => e = .returned (.int .i64 (((chk T 1 0).1 : Nat) : Int)) ∧ Below w.heap.size w w' := by
  obtain ⟨k, x, a1, n1, c1, a2, n2, c2, a3, n3, c3, rfl⟩ := hL.form
  have hb0 : Below w.heap.size w ((w.alloc (.cells #[.int .i64 k, .bool x, .slice a1 n1 c1, .slice a2 n2 c2, .slice a3 n3 c3] 26)).alloc (.cells #[.int .i64 0] 3)) := ((Below.refl _ _).alloc (Nat.le_refl _) _).alloc (by simp) _
  have hC0 : Ctr ((w.alloc (.cells #[.int .i64 k, .bool x, .slice a1 n1 c1, .slice a2 n2 c2, .slice a3 n3 c3] 26)).alloc (.cells #[.int .i64 0] 3)) (w.heap.size + 1) (.int .i64 ((0 : Nat) : Int)) := ⟨by simp [go_sem], by simp [go_sem]⟩
  have HI := hide (chkR_any T lo hi _ _ (w.heap.size + 1) 1 0 (hL.kept hb0 hhi) hW hC0 (by omega) (by omega) (by omega))
  clear hL hC0
  obtain ⟨E, M, hEM⟩ : ∃ E M, chk T 1 0 = (E, M) := ⟨_, _, rfl⟩
  rw [hEM] at HI ⊢
  clear hEM
  go_enter Try.func18, Try.ntmps18
  go_wp2_with fail
  refine (unhide HI).mono ?_
  rintro e w1 ⟨rfl, hS, _⟩
  have hbl : Below w.heap.size w w1 := hb0.trans (hS.below (by omega) (by simp; omega))
  go_wp2_with fail
  go_ret
  exact ⟨rfl, hbl⟩
end Go.Proofs.Ytikamklgelcnhab
/- Rows appended to rows of the call's own. -/
namespace Go.Proofs.Ytikamklgelcnhab
open Go.RowKit
def app22 (ty : TypeId) (args : Array Value) : Sem Value := Builtin.append_ #[22, 22] ty args
@[go_sem ↓] theorem append_app22 (ty : TypeId) (args : Array Value) : Builtin.append_ #[22, 22] ty args = app22 ty args := rfl
def app23 (ty : TypeId) (args : Array Value) : Sem Value := Builtin.append_ #[23, 23] ty args
@[go_sem ↓] theorem append_app23 (ty : TypeId) (args : Array Value) : Builtin.append_ #[23, 23] ty args = app23 ty args := rfl
def app24 (ty : TypeId) (args : Array Value) : Sem Value := Builtin.append_ #[24, 24] ty args
@[go_sem ↓] theorem append_app24 (ty : TypeId) (args : Array Value) : Builtin.append_ #[24, 24] ty args = app24 ty args := rfl
theorem info_at (e : TypeId) (z : Value) (size bytes : Nat) (h : (Try.prog.info? e).map (fun i => (i.zero, i.size, i.bytes)) = some (some z, size, bytes)) : ∃ i, Try.prog.info? e = some i ∧ i.zero = some z ∧ i.size = size ∧ i.bytes = bytes := by
  cases hq : Try.prog.info? e with
  | none => simp [hq] at h
  | some i => simp [hq] at h; exact ⟨i, rfl, h.1, h.2.1, h.2.2⟩
theorem info5 : ∃ i, Try.prog.info? 5 = some i ∧ i.zero = some (.int .u8 0) ∧ i.size = 1 ∧ i.bytes = 1 := info_at _ _ _ _ (by kernel_rfl)
theorem info9 : ∃ i, Try.prog.info? 9 = some i ∧ i.zero = some (.string ⟨#[]⟩) ∧ i.size = 1 ∧ i.bytes = 16 := info_at _ _ _ _ (by kernel_rfl)
theorem info26 : ∃ i, Try.prog.info? 26 = some i ∧ i.zero = some (.agg #[.int .i64 0, .bool false, .slice none 0 0, .slice none 0 0, .slice none 0 0]) ∧ i.size = 5 ∧ i.bytes = 88 := info_at _ _ _ _ (by kernel_rfl)
/-- Whatever has turned besides, the call's own row stands. -/
theorem owns_same {w w' : World} {base base' : Nat} {e : TypeId} {size : Nat} {v : Value} {n : Nat} {xs : List Value} (h : w.ownsRow base e size v n xs) (hs : ∀ g, v.ownBlock = some g → w'.heap[g]? = w.heap[g]?) (hb : ∀ g, v.ownBlock = some g → base ≤ g → base' ≤ g) : w'.ownsRow base' e size v n xs := by
  refine ⟨h.1, ?_⟩
  rcases h.2 with h2 | ⟨g, cap, cur, rfl, hg, hh, r⟩
  · exact .inl h2
  · exact .inr ⟨g, cap, cur, rfl, hb g rfl hg, by rw [hs g rfl]; exact hh, r⟩
theorem addr_mid (g o j : Nat) : (⟨g, o, none⟩ : Addr).add j = ⟨g, o + j, none⟩ := by unfold Addr.add; split <;> simp_all
theorem Row.src {lo hi : Nat} {w : World} {a : Option Addr} {n c : Nat} {xs : List Value} (h : Row lo hi w (.slice a n c) n xs) (h0 : 0 < n) : ∃ b : Addr, a = some b ∧ ∀ j u, xs[j]? = some u → w.cell? (b.add j) = some u := by
  obtain ⟨g, o, rfl, _, _, hcell⟩ := h.at h0
  exact ⟨_, rfl, fun j u hj => by rw [addr_mid]; exact hcell j u hj⟩
/-- The one law of append onto a row of one's own: for every element type here. -/
theorem app_own {t e : TypeId} {i : TypeInfo} {z : Value} {size bytes : Nat} (ht : Try.prog.underlying t = some (.slice e)) (hi : Try.prog.info? e = some i) (hz : i.zero = some z) (hsize : i.size = size) (hby : i.bytes = bytes) (hzs : z.cells.size = size) (hsz : 0 < size)
    (w : World) (base lo hi' : Nat) (v : Value) (n : Nat) (xs : List Value) (a : Option Addr) (m c : Nat) (ys : List Value) (ty : TypeId) (ho : w.ownsRow base e size v n xs) (hr : Row lo hi' w (.slice a m c) m ys) (hl : ys.length = m * size) (h1 : ∀ u ∈ ys, u.oneCell' = true) (hmax : (n + m) * bytes ≤ 100000000000) (hbytes : 0 < bytes) (hbase : base ≤ w.heap.size) :
    ∃ v' w', (Builtin.append_ #[t, t] ty #[v, .slice a m c]).run Try.prog w = .ok v' w' ∧ w'.ownsRow base e size v' (n + m) (xs ++ ys) ∧ w.grownBy w' v.ownBlock ∧ (v'.ownBlock = v.ownBlock ∨ v'.ownBlock = some w.heap.size) := by
  have hnm : n + m ≤ 100000000000 := Nat.le_trans (Nat.le_mul_of_pos_right _ hbytes) hmax
  by_cases h0 : 0 < m
  · obtain ⟨b, rfl, hcell⟩ := hr.src h0
    obtain ⟨v', w', hr', h2, h3, -⟩ := run_append_own (P := Try.prog) w base t ty e i z size bytes ht hi hz hsize hby hzs hsz v n xs ho b m c ys hl hcell h1 (by simp only [maxLen]; omega) (by omega) hbase
    refine ⟨v', w', hr', h2, h3, ?_⟩
    subst hsize
    subst hby
    rcases ho.2 with ⟨rfl, rfl⟩ | ⟨g, cap, cur, rfl, hg, hh, hcap, hm, hcs, htk⟩
    · rw [run_append_nil (P := Try.prog) w t ty e i z ht hi hz b m c ys hl hcell h0 (by omega) (by rw [Nat.zero_add] at hmax; omega)] at hr'
      injection hr' with e1 e2
      subst e1
      exact .inr rfl
    · by_cases hroom : n + m ≤ cap
      · rw [run_append_room (P := Try.prog) w t ty e i ht hi g n cap cur hh b m c ys hl hcell h1 hroom (by rw [hl, hcs, ← Nat.add_mul]; exact Nat.mul_le_mul_right _ hroom)] at hr'
        injection hr' with e1 e2
        subst e1
        exact .inl rfl
      · have hold : ∀ j u, xs[j]? = some u → w.cell? ((⟨g, 0, none⟩ : Addr).add j) = some u := fun j u hj => by
          rw [addr_mid, Nat.zero_add]
          have e0 : w.cell? ⟨g, j, none⟩ = cur[j]? := by unfold World.cell?; simp [hh]
          rw [e0]
          rw [← htk] at hj
          have hj2 := (List.getElem?_eq_some_iff.1 hj).1
          rw [List.length_take] at hj2
          rw [List.getElem?_take_of_lt (by omega)] at hj
          rw [← hj]; simp
        have hfit : Builtin.nextslicecap (n + m) cap * i.bytes ≤ 281474976710656 := growslice_fits (by omega) (by omega)
        rw [run_append_grow (P := Try.prog) w t ty e i z ht hi hz ⟨g, 0, none⟩ n cap xs ho.1 hold b m c ys hl hcell (by omega) (by omega) hfit] at hr'
        injection hr' with e1 e2
        subst e1
        exact .inr rfl
  · obtain rfl : m = 0 := by omega
    obtain rfl : ys = [] := List.eq_nil_of_length_eq_zero (by rw [hl]; omega)
    have hsrc : Src Try.prog i.size t (.slice a 0 c) 0 [] w := by
      cases a with
      | none => exact Src.ofNil w ht c
      | some x => exact Src.ofSlice w ht x 0 c [] (by simp) (fun j u hj => by simp at hj) (fun u hu => by simp at hu)
    obtain ⟨b, n', cp, rfl, hle, hn⟩ : ∃ b n' cp, v = .slice b n' cp ∧ n' ≤ cp ∧ n' = n := by
      rcases ho.2 with ⟨rfl, h⟩ | ⟨g, cap, cur, rfl, _, _, h, _⟩
      · exact ⟨none, 0, 0, rfl, Nat.le_refl _, h.symm⟩
      · exact ⟨_, _, _, rfl, h, rfl⟩
    refine ⟨_, w, run_append_nothing w t t ty e i ht hi b n' cp hle _ hsrc, ?_, ?_, .inl rfl⟩
    · rw [List.append_nil]; exact ho
    · exact ⟨rfl, rfl, rfl, Nat.le_refl _, fun _ _ _ => rfl⟩
theorem app22_own (w : World) (base lo hi : Nat) (v : Value) (n : Nat) (xs : List Value) (a : Option Addr) (m c : Nat) (ys : List Value) (ho : w.ownsRow base 5 1 v n xs) (hr : Row lo hi w (.slice a m c) m ys) (hl : ys.length = m) (h1 : ∀ u ∈ ys, u.oneCell' = true) (hmax : n + m ≤ 100000000) (hbase : base ≤ w.heap.size) :
    ∃ v' w', (∀ ty, (app22 ty #[v, .slice a m c]).run Try.prog w = .ok v' w') ∧ w'.ownsRow base 5 1 v' (n + m) (xs ++ ys) ∧ w.grownBy w' v.ownBlock ∧ (v'.ownBlock = v.ownBlock ∨ v'.ownBlock = some w.heap.size) := by
  obtain ⟨i, hi', hz, hsz, hby⟩ := info5
  obtain ⟨v', w', hr', h2, h3, h4⟩ := app_own Try.underlying22 hi' hz hsz hby rfl (by omega) w base lo hi v n xs a m c ys 22 ho hr (by omega) h1 (by omega) (by omega) hbase
  exact ⟨v', w', fun ty => hr', h2, h3, h4⟩
theorem app23_own (w : World) (base lo hi : Nat) (v : Value) (n : Nat) (xs : List Value) (a : Option Addr) (m c : Nat) (ys : List Value) (ho : w.ownsRow base 9 1 v n xs) (hr : Row lo hi w (.slice a m c) m ys) (hl : ys.length = m) (h1 : ∀ u ∈ ys, u.oneCell' = true) (hmax : n + m ≤ 100000000) (hbase : base ≤ w.heap.size) :
    ∃ v' w', (∀ ty, (app23 ty #[v, .slice a m c]).run Try.prog w = .ok v' w') ∧ w'.ownsRow base 9 1 v' (n + m) (xs ++ ys) ∧ w.grownBy w' v.ownBlock ∧ (v'.ownBlock = v.ownBlock ∨ v'.ownBlock = some w.heap.size) := by
  obtain ⟨i, hi', hz, hsz, hby⟩ := info9
  obtain ⟨v', w', hr', h2, h3, h4⟩ := app_own Try.underlying23 hi' hz hsz hby rfl (by omega) w base lo hi v n xs a m c ys 23 ho hr (by omega) h1 (by omega) (by omega) hbase
  exact ⟨v', w', fun ty => hr', h2, h3, h4⟩
theorem app24_own (w : World) (base lo hi : Nat) (v : Value) (n : Nat) (xs : List Value) (a : Option Addr) (m c : Nat) (ys : List Value) (ho : w.ownsRow base 26 5 v n xs) (hr : Row lo hi w (.slice a m c) m ys) (hl : ys.length = m * 5) (h1 : ∀ u ∈ ys, u.oneCell' = true) (hmax : n + m ≤ 100000000) (hbase : base ≤ w.heap.size) :
    ∃ v' w', (∀ ty, (app24 ty #[v, .slice a m c]).run Try.prog w = .ok v' w') ∧ w'.ownsRow base 26 5 v' (n + m) (xs ++ ys) ∧ w.grownBy w' v.ownBlock ∧ (v'.ownBlock = v.ownBlock ∨ v'.ownBlock = some w.heap.size) := by
  obtain ⟨i, hi', hz, hsz, hby⟩ := info26
  obtain ⟨v', w', hr', h2, h3, h4⟩ := app_own Try.underlying24 hi' hz hsz hby rfl (by omega) w base lo hi v n xs a m c ys 24 ho hr hl h1 (by omega) (by omega) hbase
  exact ⟨v', w', fun ty => hr', h2, h3, h4⟩
end Go.Proofs.Ytikamklgelcnhab
/- What stands where it stood while other blocks turn. -/
namespace Go.Proofs.Ytikamklgelcnhab
open Go.RowKit
theorem Row.same {lo hi : Nat} {w w' : World} {v : Value} {n : Nat} {xs : List Value} (h : Row lo hi w v n xs) (hs : ∀ k, lo ≤ k → k < hi → w'.heap[k]? = w.heap[k]?) : Row lo hi w' v n xs := by
  obtain ⟨a, c, e, hc, hx⟩ := h
  refine ⟨a, c, e, hc, fun h0 => ?_⟩
  obtain ⟨g, o, ea, hg1, hg2, hcell⟩ := hx h0
  exact ⟨g, o, ea, hg1, hg2, fun j u hj => by rw [World.cell?_of_block (w := w) (a := ⟨g, o + j, none⟩) (hs g hg1 hg2)]; exact hcell j u hj⟩
theorem Lies.same {lo hi : Nat} {w w' : World} {T : Tr} {cs : List Value} (h : Lies lo hi w T cs) (hs : ∀ k, lo ≤ k → k < hi → w'.heap[k]? = w.heap[k]?) : Lies lo hi w' T cs := by
  induction h with
  | mk k x d ns ks vd vn vk Ks hl hd hn hk hK ih => exact .mk k x d ns ks vd vn vk Ks hl (hd.same hs) (hn.same hs) (hk.same hs) ih
theorem cell_of_row (w : World) (g j : Nat) (c : Array Value) (t : TypeId) (f : Nat × Nat) (h : w.heap[g]? = some (.cells c t f)) : w.cell? ⟨g, j, none⟩ = c[j]? := by
  unfold World.cell?; simp [h]
theorem owns_row {w : World} {base lo hi : Nat} {e : TypeId} {size : Nat} {v : Value} {n : Nat} {xs : List Value} (h : w.ownsRow base e size v n xs) (hb : ∀ g, v.ownBlock = some g → lo ≤ g ∧ g < hi) : Row lo hi w v n xs := by
  rcases h.2 with ⟨rfl, rfl⟩ | ⟨g, cap, cur, rfl, hg, hh, hcap, hm, hsz, ht⟩
  · exact ⟨none, 0, rfl, Nat.le_refl _, fun h => by omega⟩
  · refine ⟨_, cap, rfl, hcap, fun _ => ⟨g, 0, rfl, (hb g rfl).1, (hb g rfl).2, fun j u hj => ?_⟩⟩
    rw [cell_of_row w g (0 + j) cur e _ hh, Nat.zero_add]
    rw [← ht] at hj
    have hj2 := (List.getElem?_eq_some_iff.1 hj).1
    rw [List.length_take] at hj2
    rw [List.getElem?_take_of_lt (by omega)] at hj
    rw [← hj]; simp
theorem owns_lt {w : World} {base : Nat} {e : TypeId} {size : Nat} {v : Value} {n : Nat} {xs : List Value} (h : w.ownsRow base e size v n xs) : ∀ g, v.ownBlock = some g → base ≤ g ∧ g < w.heap.size := by
  intro g hg
  rcases h.2 with ⟨rfl, rfl⟩ | ⟨g', cap, cur, rfl, hg', hh, _⟩
  · simp [Value.ownBlock] at hg
  · simp [Value.ownBlock] at hg; subst hg; exact ⟨hg', (Array.getElem?_eq_some_iff.1 hh).1⟩
theorem owns_slice {w : World} {base : Nat} {e : TypeId} {size : Nat} {v : Value} {n : Nat} {xs : List Value} (h : w.ownsRow base e size v n xs) : ∃ a c, v = .slice a n c ∧ n ≤ c := by
  rcases h.2 with ⟨rfl, rfl⟩ | ⟨g', cap, cur, rfl, hg', hh, hc, _⟩
  · exact ⟨none, 0, rfl, Nat.le_refl _⟩
  · exact ⟨_, _, rfl, hc⟩
theorem Bx.fr {w : World} {b : Nat} {v0 v1 v2 v3 v4 : Value} (h : Bx w b v0 v1 v2 v3 v4) (o : Nat) : w.frozen? ⟨b, o, none⟩ = false := by
  unfold World.frozen?; rw [show w.heap[b]? = _ from h]; simp
theorem Bx.set2 {w : World} {b : Nat} {v0 v1 v2 v3 v4 : Value} (h : Bx w b v0 v1 v2 v3 v4) (v : Value) : Bx (w.setCell ⟨b, 2, none⟩ v) b v0 v1 v v3 v4 := by
  unfold Bx at *; simp [World.setCell, Array.getElem?_modify, h]
theorem Bx.set3 {w : World} {b : Nat} {v0 v1 v2 v3 v4 : Value} (h : Bx w b v0 v1 v2 v3 v4) (v : Value) : Bx (w.setCell ⟨b, 3, none⟩ v) b v0 v1 v2 v v4 := by
  unfold Bx at *; simp [World.setCell, Array.getElem?_modify, h]
theorem Bx.set4 {w : World} {b : Nat} {v0 v1 v2 v3 v4 : Value} (h : Bx w b v0 v1 v2 v3 v4) (v : Value) : Bx (w.setCell ⟨b, 4, none⟩ v) b v0 v1 v2 v3 v := by
  unfold Bx at *; simp [World.setCell, Array.getElem?_modify, h]
theorem set_other (w : World) (b o k : Nat) (v : Value) (h : k ≠ b) : (w.setCell ⟨b, o, none⟩ v).heap[k]? = w.heap[k]? := Below.heap_setCell _ _ _ _ h
end Go.Proofs.Ytikamklgelcnhab
/- Rows of the call's own, made one behind the other: bytes, names, kids. -/
namespace Go.Proofs.Ytikamklgelcnhab
open Go.RowKit
theorem owns_new (w : World) (e : TypeId) (size : Nat) : (w.alloc (.cells #[] e)).ownsRow w.heap.size e size (.slice (some ⟨w.heap.size, 0, none⟩) 0 0) 0 [] :=
  ⟨by simp, .inr ⟨w.heap.size, 0, #[], rfl, Nat.le_refl _, by show (w.heap.push _)[w.heap.size]? = _; rw [Array.getElem?_push, if_pos rfl], Nat.le_refl _, Nat.zero_le _, by simp, by simp⟩⟩
theorem one_bytes (d : ByteArray) : ∀ u ∈ byteVals d, u.oneCell' = true := fun u hu => by obtain ⟨b, -, rfl⟩ := List.mem_map.1 hu; rfl
theorem one_strs (ns : List ByteArray) : ∀ u ∈ ns.map Value.string, u.oneCell' = true := fun u hu => by obtain ⟨b, -, rfl⟩ := List.mem_map.1 hu; rfl
/-- What is appended to an empty literal is a row of its own. -/
theorem fresh22 (w : World) (lo hi : Nat) (a : Option Addr) (m c : Nat) (ys : List Value) (hr : Row lo hi w (.slice a m c) m ys) (hl : ys.length = m) (h1 : ∀ u ∈ ys, u.oneCell' = true) (hmax : m ≤ 100000000) (hhi : hi ≤ w.heap.size) :
    ∃ a1 c1 w1, (∀ ty, (app22 ty #[.slice (some ⟨w.heap.size, 0, none⟩) 0 0, .slice a m c]).run Try.prog (w.alloc (.cells #[] 5)) = .ok (.slice a1 m c1) w1) ∧ Below w.heap.size w w1 ∧ Row w.heap.size w1.heap.size w1 (.slice a1 m c1) m ys := by
  have hb : Below w.heap.size w (w.alloc (.cells #[] 5)) := (Below.refl _ _).alloc (Nat.le_refl _) _
  obtain ⟨v1, w1, happ, ho, hg, _⟩ := app22_own _ _ lo hi _ 0 [] a m c ys (owns_new w 5 1) (hr.below hb hhi) hl h1 (by omega) (by simp)
  rw [Nat.zero_add, List.nil_append] at ho
  obtain ⟨a1, c1, rfl, _⟩ := owns_slice ho
  exact ⟨a1, c1, w1, happ, hb.grown hg (by simp) (fun k hk => by simp [Value.ownBlock] at hk; omega), owns_row ho (owns_lt ho)⟩
theorem fresh23 (w : World) (lo hi : Nat) (a : Option Addr) (m c : Nat) (ys : List Value) (hr : Row lo hi w (.slice a m c) m ys) (hl : ys.length = m) (h1 : ∀ u ∈ ys, u.oneCell' = true) (hmax : m ≤ 100000000) (hhi : hi ≤ w.heap.size) :
    ∃ a1 c1 w1, (∀ ty, (app23 ty #[.slice (some ⟨w.heap.size, 0, none⟩) 0 0, .slice a m c]).run Try.prog (w.alloc (.cells #[] 9)) = .ok (.slice a1 m c1) w1) ∧ Below w.heap.size w w1 ∧ Row w.heap.size w1.heap.size w1 (.slice a1 m c1) m ys := by
  have hb : Below w.heap.size w (w.alloc (.cells #[] 9)) := (Below.refl _ _).alloc (Nat.le_refl _) _
  obtain ⟨v1, w1, happ, ho, hg, _⟩ := app23_own _ _ lo hi _ 0 [] a m c ys (owns_new w 9 1) (hr.below hb hhi) hl h1 (by omega) (by simp)
  rw [Nat.zero_add, List.nil_append] at ho
  obtain ⟨a1, c1, rfl, _⟩ := owns_slice ho
  exact ⟨a1, c1, w1, happ, hb.grown hg (by simp) (fun k hk => by simp [Value.ownBlock] at hk; omega), owns_row ho (owns_lt ho)⟩
/-- Kids of the call's own, so many yet, in a row of its own. -/
def KidsAt (Z : Nat) (w : World) (v : Value) (ks : List Tr) (i : Nat) : Prop :=
  ∃ Ks : List (List Value), Ks.length = i ∧ (∀ c ∈ Ks, c.length = 5) ∧ w.ownsRow Z 26 5 v i Ks.flatten ∧
    ∀ (j : Nat) (t : Tr) (c : List Value), ks[j]? = some t → Ks[j]? = some c → ∃ L H, Lies L H w t c ∧ Z ≤ L ∧ H ≤ w.heap.size ∧ ∀ g, v.ownBlock = some g → g < L ∨ H ≤ g
theorem kids_none (Z : Nat) (w : World) (ks : List Tr) : KidsAt Z w (.slice none 0 0) ks 0 :=
  ⟨[], rfl, fun c hc => by simp at hc, ⟨rfl, .inl ⟨rfl, rfl⟩⟩, fun j t c _ hc => by simp at hc⟩
theorem Lies.one {lo hi : Nat} {w : World} {T : Tr} {cs : List Value} (h : Lies lo hi w T cs) : ∀ u ∈ cs, u.oneCell' = true := by
  obtain ⟨k, x, a1, n1, c1, a2, n2, c2, a3, n3, c3, rfl⟩ := h.form
  intro u hu
  simp at hu
  rcases hu with rfl | rfl | rfl | rfl | rfl <;> rfl
theorem one_row (w : World) (cs : List Value) (e : TypeId) : Row w.heap.size (w.heap.size + 1) (w.alloc (.cells cs.toArray e)) (.slice (some ⟨w.heap.size, 0, none⟩) 1 1) 1 cs := by
  refine ⟨_, 1, rfl, Nat.le_refl _, fun _ => ⟨w.heap.size, 0, rfl, Nat.le_refl _, by omega, fun j u hj => ?_⟩⟩
  rw [cell_of_row (w.alloc (.cells cs.toArray e)) w.heap.size (0 + j) cs.toArray e (0, 0) (by show (w.heap.push _)[w.heap.size]? = _; rw [Array.getElem?_push, if_pos rfl]), Nat.zero_add]
  simpa using hj
/-- One more kid is appended. -/
theorem kids_step {Z : Nat} {wr w1 : World} {v : Value} {ks : List Tr} {i : Nat} {cs : List Value} {t : Tr} (h : KidsAt Z wr v ks i) (hb : Below wr.heap.size wr w1) (hL : Lies wr.heap.size w1.heap.size w1 t cs) (ht : ks[i]? = some t) (hmax : i ≤ 1000000) (hZ : Z ≤ wr.heap.size) :
    ∃ a' c' w2, (∀ ty, (app24 ty #[v, .slice (some ⟨w1.heap.size, 0, none⟩) 1 1]).run Try.prog (w1.alloc (.cells cs.toArray 26)) = .ok (.slice a' (i + 1) c') w2) ∧ KidsAt Z w2 (.slice a' (i + 1) c') ks (i + 1) ∧ Below Z wr w2 := by
  obtain ⟨Ks, hKl, hK5, ho, hK⟩ := h
  have hb1 : Below w1.heap.size w1 (w1.alloc (.cells cs.toArray 26)) := (Below.refl _ _).alloc (Nat.le_refl _) _
  have hb2 : Below wr.heap.size wr (w1.alloc (.cells cs.toArray 26)) := hb.trans (hb1.mono hb.size)
  have hsz := hb.size
  have ho1 : (w1.alloc (.cells cs.toArray 26)).ownsRow Z 26 5 v i Ks.flatten := owns_same ho (fun g hg => hb2.block g (owns_lt ho g hg).2) (fun g _ h => h)
  obtain ⟨v', w2, happ, ho2, hg, hf⟩ := app24_own _ Z _ _ v i Ks.flatten _ 1 1 cs ho1 (one_row w1 cs 26) (by rw [hL.length]) hL.one (by omega) (by simp; omega)
  obtain ⟨a', c', rfl, _⟩ := owns_slice ho2
  have hbw : Below Z wr w2 := (hb2.mono hZ).grown hg (by simp; omega) (fun k hk => (owns_lt ho1 k hk).1)
  have hs1 : (w1.alloc (.cells cs.toArray 26)).heap.size = w1.heap.size + 1 := by simp
  have hs2 := hg.size
  rw [hs1] at hs2 hf
  refine ⟨a', c', w2, happ, ⟨Ks ++ [cs], by rw [List.length_append, hKl]; rfl, ?_, ?_, ?_⟩, hbw⟩
  · intro c hc
    rcases List.mem_append.1 hc with h | h
    · exact hK5 c h
    · simp at h; subst h; exact hL.length
  · rw [List.flatten_append]; simpa using ho2
  · intro j t' c' hj hc
    by_cases hji : j < i
    · rw [List.getElem?_append_left (by omega)] at hc
      obtain ⟨L, H, hLj, hZL, hHw, hap⟩ := hK j t' c' hj hc
      refine ⟨L, H, hLj.same (fun k hk1 hk2 => ?_), hZL, by omega, fun g hgv => ?_⟩
      · rw [hg.block k (by rw [hs1]; omega) (fun e => by have := hap k e.symm; omega), hb2.block k (by omega)]
      · rcases hf with h | h
        · exact hap g (by rw [← h]; exact hgv)
        · rw [h] at hgv; simp at hgv; omega
    · obtain rfl : j = i := by
        have := (List.getElem?_eq_some_iff.1 hc).1
        simp at this; omega
      rw [ht] at hj
      cases hj
      rw [List.getElem?_append_right (by omega), hKl] at hc
      simp at hc
      subst hc
      refine ⟨wr.heap.size, w1.heap.size, hL.same (fun k hk1 hk2 => ?_), hZ, by omega, fun g hgv => ?_⟩
      · rw [hg.block k (by rw [hs1]; omega) (fun e => by have := (owns_lt ho k e.symm).2; omega), hb1.block k (by omega)]
      · rcases hf with h | h
        · have := (owns_lt ho g (by rw [← h]; exact hgv)).2; omega
        · rw [h] at hgv; simp at hgv; omega
theorem kids_end {Z : Nat} {w : World} {v : Value} {ks : List Tr} (h : KidsAt Z w v ks ks.length) :
    ∃ Ks : List (List Value), Ks.length = ks.length ∧ Row Z w.heap.size w v ks.length Ks.flatten ∧ ∀ (j : Nat) (t : Tr) (c : List Value), ks[j]? = some t → Ks[j]? = some c → Lies Z w.heap.size w t c := by
  obtain ⟨Ks, hKl, hK5, ho, hK⟩ := h
  exact ⟨Ks, hKl, owns_row ho (owns_lt ho), fun j t c hj hc => by obtain ⟨L, H, hL, h1, h2, _⟩ := hK j t c hj hc; exact hL.mono h1 h2⟩
/-- What the row of kids is in a world in which nothing of it has turned. -/
theorem KidsAt.same {Z : Nat} {w w' : World} {v : Value} {ks : List Tr} {i : Nat} (h : KidsAt Z w v ks i) (hs : ∀ k, Z ≤ k → k < w.heap.size → w'.heap[k]? = w.heap[k]?) (hz : w.heap.size ≤ w'.heap.size) : KidsAt Z w' v ks i := by
  obtain ⟨Ks, hKl, hK5, ho, hK⟩ := h
  refine ⟨Ks, hKl, hK5, owns_same ho (fun g hg => hs g (owns_lt ho g hg).1 (owns_lt ho g hg).2) (fun g _ h => h), fun j t c hj hc => ?_⟩
  obtain ⟨L, H, hL, h1, h2, h3⟩ := hK j t c hj hc
  exact ⟨L, H, hL.same (fun k hk1 hk2 => hs k (by omega) (by omega)), h1, by omega, h3⟩
end Go.Proofs.Ytikamklgelcnhab
/- Lengths and what stands behind texts, appended. -/
namespace Go.Proofs.Ytikamklgelcnhab
open Go.RowKit
set_option linter.unusedSimpArgs false
/-- Bytes as cells. -/
def bv (l : List UInt8) : List Value := l.map fun b => .int .u8 (b.toNat : Int)
theorem bv_append (a b : List UInt8) : bv (a ++ b) = bv a ++ bv b := by unfold bv; rw [List.map_append]
theorem bv_length (a : List UInt8) : (bv a).length = a.length := by unfold bv; rw [List.length_map]
theorem bv_one (a : List UInt8) : ∀ u ∈ bv a, u.oneCell' = true := fun u hu => by obtain ⟨b, -, rfl⟩ := List.mem_map.1 hu; rfl
theorem bv_sB (d : ByteArray) : bv (sB d) = byteVals d := rfl
set_option maxRecDepth 20000 in
set_option maxHeartbeats 1000000 in
theorem padding_any (n : Nat) (w : World) (hn : n ≤ 1000000000) : Calls Try.prog 50 #[.int .i64 (n : Int)] w fun e w' => e = .returned (.int .i64 ((padN n : Nat) : Int)) ∧ w' = w := by
  go_enter Try.func50, Try.ntmps50
  go_wp2_with fail
  go_ret
  refine ⟨?_, rfl⟩
  show Ending.returned (.int .i64 ((8 - (n : Int) % 8) % 8)) = _
  have : (8 - (n : Int) % 8) % 8 = ((padN n : Nat) : Int) := by unfold padN; omega
  rw [this]
/-- One byte more. -/
theorem byte_app (w : World) (base : Nat) (v : Value) (n : Nat) (xs : List UInt8) (b : UInt8) (ho : w.ownsRow base 5 1 v n (bv xs)) (hmax : n ≤ 10000000) (hbase : base ≤ w.heap.size) :
    ∃ a' c' w', (∀ ty, (app22 ty #[v, .slice (some ⟨w.heap.size, 0, none⟩) 1 1]).run Try.prog (w.alloc (.cells #[.int .u8 (b.toNat : Int)] 5)) = .ok (.slice a' (n + 1) c') w') ∧ w'.ownsRow base 5 1 (.slice a' (n + 1) c') (n + 1) (bv (xs ++ [b])) ∧ Below base w w' ∧ w.heap.size ≤ w'.heap.size := by
  obtain ⟨v', w', h1, h2, h3, _⟩ := app22_own (w.alloc (.cells #[.int .u8 (b.toNat : Int)] 5)) base _ _ v n (bv xs) _ 1 1 [.int .u8 (b.toNat : Int)] (ho.alloc _) (one_row w [.int .u8 (b.toNat : Int)] 5) rfl (fun u hu => by simp at hu; subst hu; rfl) (by omega) (by simp; omega)
  obtain ⟨a', c', rfl, _⟩ := owns_slice h2
  refine ⟨a', c', w', h1, by rw [bv_append]; exact h2, ?_, ?_⟩
  · exact ((Below.refl base w).alloc hbase _).grown h3 (by simp; omega) (fun k hk => (owns_lt ho k hk).1)
  · have := h3.size; simp at this; omega
/-- What an appending call answers. -/
def RowA (base : Nat) (w : World) (n : Nat) (xs : List UInt8) (e : Ending) (w' : World) : Prop := ∃ a c, e = .returned (.slice a n c) ∧ w'.ownsRow base 5 1 (.slice a n c) n (bv xs) ∧ Below base w w' ∧ w.heap.size ≤ w'.heap.size
theorem rep_snoc (k : Nat) : List.replicate (k + 1) (0 : UInt8) = List.replicate k 0 ++ [0] := by rw [List.replicate_succ']
set_option maxRecDepth 20000 in
set_option maxHeartbeats 1000000 in
theorem padapp_any (base : Nat) (a : Option Addr) (c n m : Nat) (xs : List UInt8) (w : World) (ho : w.ownsRow base 5 1 (.slice a n c) n (bv xs)) (hmax : n ≤ 1000000) (hm : m ≤ 1000000000) (hbase : base ≤ w.heap.size) :
    Calls Try.prog 35 #[.slice a n c, .int .i64 (m : Int)] w fun e w' => RowA base w (n + padN m) (xs ++ List.replicate (padN m) 0) e w' := by
  have HP := hide (padding_any m w hm)
  have HO := hide ho
  have hp8 : padN m < 8 := by unfold padN; omega
  clear ho
  generalize padN m = pm at *
  go_enter Try.func35, Try.ntmps35
  go_wp2_with fail
  refine (unhide HP).mono ?_
  rintro e w1 ⟨rfl, rfl⟩
  clear HP
  go_wp2_with fail
  go_loopw [7, 0] (fun vi vb wr => ∃ (i : Nat) (a' : Option Addr) (c' : Nat), i ≤ pm ∧ vi = .int .i64 (i : Int) ∧ vb = .slice a' (n + i) c' ∧ Hid (wr.ownsRow base 5 1 (.slice a' (n + i) c') (n + i) (bv (xs ++ List.replicate i 0))) ∧ Below base w1 wr ∧ w1.heap.size ≤ wr.heap.size) (fun vi _ _ => pm - (intOf vi).toNat)
  case atStart => exact ⟨0, a, c, by omega, rfl, rfl, by show World.ownsRow _ _ _ _ _ _ _; simpa using unhide HO, Below.refl _ _, Nat.le_refl _⟩
  case round =>
    obtain ⟨i, a', c', hi, rfl, rfl, hO, hb, hs⟩ := hrel
    by_cases hlt : i < pm
    · obtain ⟨a2, c2, w2, happ, h2, h3, h4⟩ := byte_app wr base (.slice a' (n + i) c') (n + i) (xs ++ List.replicate i 0) 0 (unhide hO) (by omega) (by omega)
      have H2 : Hid (w2.ownsRow base 5 1 (.slice a2 (n + i + 1) c2) (n + i + 1) (bv (xs ++ List.replicate (i + 1) 0))) := by
        show World.ownsRow _ _ _ _ _ _ _
        rw [rep_snoc, ← List.append_assoc]; exact h2
      have H3 := hide (And.intro (hb.trans h3) (Nat.le_trans hs h4))
      have happ' : ∀ ty, (app22 ty #[.slice a' (n + i) c', .slice (some ⟨wr.heap.size, 0, none⟩) 1 1]).run Try.prog (wr.alloc (.cells #[.int .u8 0] 5)) = .ok (.slice a2 (n + i + 1) c2) w2 := happ
      clear hO h2 h3 h4 hb hs happ
      go_wp2_with fail
      go_roundw
      case rel => exact ⟨i + 1, a2, c2, by omega, by go_num, rfl, unhide H2, (unhide H3).1, (unhide H3).2⟩
      case measure => simp [intOf]; try omega
    · obtain rfl : pm = i := by omega
      go_wp2_with fail
      go_ret
      exact ⟨a', c', rfl, unhide hO, hb, hs⟩
set_option maxRecDepth 20000 in
set_option maxHeartbeats 1000000 in
theorem lenapp_any (base : Nat) (a : Option Addr) (c n m : Nat) (xs : List UInt8) (w : World) (ho : w.ownsRow base 5 1 (.slice a n c) n (bv xs)) (hmax : n ≤ 1000000) (hbase : base ≤ w.heap.size) :
    Calls Try.prog 34 #[.slice a n c, .int .i64 (m : Int)] w fun e w' => RowA base w (n + 8) (xs ++ lenB 8 m) e w' := by
  have HO := hide ho
  clear ho
  go_enter Try.func34, Try.ntmps34
  go_wp2_with fail
  go_loopw [5, 0, 1] (fun vi vb vn wr => ∃ (i : Nat) (a' : Option Addr) (c' : Nat), i ≤ 8 ∧ vi = .int .i64 (i : Int) ∧ vn = .int .i64 ((m / 256 ^ i : Nat) : Int) ∧ vb = .slice a' (n + i) c' ∧ Hid (wr.ownsRow base 5 1 (.slice a' (n + i) c') (n + i) (bv (xs ++ lenB i m))) ∧ Below base w wr ∧ w.heap.size ≤ wr.heap.size) (fun vi _ _ _ => 8 - (intOf vi).toNat)
  case atStart => exact ⟨0, a, c, by omega, rfl, by simp, rfl, by show World.ownsRow _ _ _ _ _ _ _; simpa [lenB] using unhide HO, Below.refl _ _, Nat.le_refl _⟩
  case round =>
    obtain ⟨i, a', c', hi, rfl, rfl, rfl, hO, hb, hs⟩ := hrel
    by_cases hlt : i < 8
    · obtain ⟨a2, c2, w2, happ, h2, h3, h4⟩ := byte_app wr base (.slice a' (n + i) c') (n + i) (xs ++ lenB i m) (UInt8.ofNat (m / 256 ^ i)) (unhide hO) (by omega) (by omega)
      have H2 : Hid (w2.ownsRow base 5 1 (.slice a2 (n + i + 1) c2) (n + i + 1) (bv (xs ++ lenB (i + 1) m))) := by
        show World.ownsRow _ _ _ _ _ _ _
        rw [lenB_snoc, ← List.append_assoc]; exact h2
      have H3 := hide (And.intro (hb.trans h3) (Nat.le_trans hs h4))
      have hle : m / 256 ^ i ≤ m := Nat.div_le_self _ _
      have Hq : Hid (m / 256 ^ (i + 1) = m / 256 ^ i / 256) := by show _ = _; rw [Nat.pow_succ, Nat.div_div_eq_div_mul]
      have e0 : ((UInt8.ofNat (m / 256 ^ i)).toNat : Int) = ((m / 256 ^ i : Nat) : Int) % 256 := by rw [UInt8.toNat_ofNat']; omega
      rw [e0] at happ
      clear hO h2 h3 h4 hb hs e0
      generalize m / 256 ^ i = mi at *
      go_wp2_with fail
      go_roundw
      case rel => exact ⟨i + 1, a2, c2, by omega, by go_num, by rw [unhide Hq]; go_num, rfl, unhide H2, (unhide H3).1, (unhide H3).2⟩
      case measure => simp [intOf]; try omega
    · obtain rfl : i = 8 := by omega
      go_wp2_with fail
      go_ret
      exact ⟨a', c', rfl, unhide hO, hb, hs⟩
end Go.Proofs.Ytikamklgelcnhab
/- A sink for bytes: what is handed to it stands behind what it has; texts and data handed to it. -/
namespace Go.Proofs.Ytikamklgelcnhab
open Go.RowKit
set_option linter.unusedSimpArgs false
/-- Only one cell's row has grown. -/
structure Gt (c : Nat) (w w' : World) (v v' : Value) : Prop where
  os : w'.os = w.os
  tape : w'.tape = w.tape
  output : w'.output = w.output
  size : w.heap.size ≤ w'.heap.size
  keep : ∀ k, k < w.heap.size → k ≠ c → v.ownBlock ≠ some k → w'.heap[k]? = w.heap[k]?
  own : ∀ g, v'.ownBlock = some g → v.ownBlock = some g ∨ w.heap.size ≤ g
theorem Gt.trans {c : Nat} {w w' w'' : World} {v v' v'' : Value} (h : Gt c w w' v v') (k : Gt c w' w'' v' v'') : Gt c w w'' v v'' :=
  ⟨k.os.trans h.os, k.tape.trans h.tape, k.output.trans h.output, Nat.le_trans h.size k.size,
    fun i hi hc hv => by
      have h2 := h.size
      rw [k.keep i (by omega) hc (fun e => by rcases h.own i e with h1 | h1; exact hv h1; omega), h.keep i hi hc hv],
    fun g hg => by
      have h2 := h.size
      rcases k.own g hg with h1 | h1
      · exact h.own g h1
      · exact .inr (by omega)⟩
theorem Gt.of_below {c : Nat} {w w' : World} (v : Value) (h : Below w.heap.size w w') : Gt c w w' v v := ⟨h.os, h.tape, h.output, h.size, fun k hk _ _ => h.block k hk, fun _ hg => .inl hg⟩
theorem Gt.drew {c : Nat} {w w' : World} {v v' : Value} (h : Gt c w w' v v') : Gt c w w'.drew v v' := ⟨h.os, h.tape, h.output, h.size, h.keep, h.own⟩
/-- The sink has these bytes. -/
structure Has (c : Nat) (w : World) (v : Value) (xs : List UInt8) : Prop where
  ctr : Ctr w c v
  row : w.ownsRow (c + 1) 5 1 v xs.length (bv xs)
theorem Has.slice {c : Nat} {w : World} {v : Value} {xs : List UInt8} (h : Has c w v xs) : ∃ a cp, v = .slice a xs.length cp := by
  obtain ⟨a, cp, e, _⟩ := owns_slice h.row; exact ⟨a, cp, e⟩
theorem Has.kept {c : Nat} {w w' : World} {v : Value} {xs : List UInt8} (h : Has c w v xs) (hb : Below w.heap.size w w') : Has c w' v xs :=
  ⟨h.ctr.below hb h.ctr.lt, owns_same h.row (fun g hg => hb.block g (owns_lt h.row g hg).2) (fun _ _ h => h)⟩
/-- What is there behind a call that hands bytes to the sink. -/
def SkA (c : Nat) (w : World) (v : Value) (xs : List UInt8) (w' : World) : Prop := ∃ v', Gt c w w' v v' ∧ Has c w' v' xs
theorem SkA.trans {c : Nat} {w w1 w2 : World} {v v1 : Value} {xs : List UInt8} (h : Gt c w w1 v v1) (k : SkA c w1 v1 xs w2) : SkA c w v xs w2 := by
  obtain ⟨v2, h2, h3⟩ := k
  exact ⟨v2, h.trans h2, h3⟩
/-- What lies elsewhere stays. -/
theorem Gt.row {c : Nat} {w w' : World} {v v' : Value} (h : Gt c w w' v v') {lo hi : Nat} {u : Value} {n : Nat} {xs : List Value} (hr : Row lo hi w u n xs) (hhi : hi ≤ w.heap.size) (hc : c < lo ∨ hi ≤ c) (hv : ∀ g, v.ownBlock = some g → g < lo ∨ hi ≤ g) : Row lo hi w' u n xs :=
  hr.same (fun k h1 h2 => h.keep k (by omega) (by omega) (fun e => by have := hv k e; omega))
set_option maxRecDepth 20000 in
set_option maxHeartbeats 1000000 in
theorem sink_any (c : Nat) (v : Value) (xs ys : List UInt8) (lo hi : Nat) (b : Option Addr) (m d : Nat) (w : World) (hS : Has c w v xs) (hr : Row lo hi w (.slice b m d) m (bv ys)) (hm : ys.length = m) (hmax : xs.length + m ≤ 10000000) :
    Calls Try.prog 12 #[.slice b m d, .pointer (some ⟨c, 0, none⟩)] w fun e w' => e = .returned (.tuple #[]) ∧ SkA c w v (xs ++ ys) w' := by
  obtain ⟨a, cp, rfl⟩ := hS.slice
  have hlt := hS.ctr.lt
  obtain ⟨v2, w2, happ, ho2, hg2, hv2⟩ := app22_own w (c + 1) lo hi (.slice a xs.length cp) xs.length (bv xs) b m d (bv ys) hS.row hr (by rw [bv_length]; exact hm) (bv_one ys) (by omega) (by omega)
  obtain ⟨a2, c2, rfl, _⟩ := owns_slice ho2
  have hne : some c ≠ (Value.slice a xs.length cp).ownBlock := fun e => by have := (owns_lt hS.row c e.symm).1; omega
  have hcc := hS.ctr.cell
  have hC2 : Ctr w2 c (.slice a xs.length cp) := ⟨by rw [World.cell?_of_block (w := w) (a := ⟨c, 0, none⟩) (hg2.block c hlt hne)]; exact hS.ctr.cell, by rw [World.frozen?_of_block (w := w) (a := ⟨c, 0, none⟩) (hg2.block c hlt hne)]; exact hS.ctr.fr⟩
  have hf2 := hC2.fr
  have hc2 := hC2.cell
  have hC3 := hC2.set (.slice a2 (xs.length + m) c2)
  have hs2 := hg2.size
  have HA : Hid (SkA c w (.slice a xs.length cp) (xs ++ ys) (w2.setCell ⟨c, 0, none⟩ (.slice a2 (xs.length + m) c2))) := by
    refine ⟨.slice a2 (xs.length + m) c2, ⟨hg2.os, hg2.tape, hg2.output, by simpa using hs2, fun k hk hkc hko => ?_, fun g hg => ?_⟩, hC3, ?_⟩
    · rw [set_other _ _ _ _ _ hkc]; exact hg2.block k hk (fun e => hko e.symm)
    · rcases hv2 with e | e
      · left; rw [← e]; exact hg
      · right; rw [e] at hg; cases hg; exact Nat.le_refl _
    · rw [List.length_append, hm, bv_append]
      exact owns_same ho2 (fun g hg => set_other _ _ _ _ _ (by have := (owns_lt ho2 g hg).1; omega)) (fun _ _ h => h)
  clear hS hr ho2 hg2 hv2 hne hC2 hC3
  go_enter Try.func12, Try.ntmps12
  go_wp2_with fail
  exact bodyPost_end (v := .tuple #[]) (by simp [results, Try.results12, go_sem]) rfl ⟨rfl, unhide HA⟩
end Go.Proofs.Ytikamklgelcnhab
/- writeTexts and writeData: texts and data handed to the sink. -/
namespace Go.Proofs.Ytikamklgelcnhab
open Go.RowKit
set_option linter.unusedSimpArgs false
def app22s (ty : TypeId) (args : Array Value) : Sem Value := Builtin.append_ #[22, 9] ty args
@[go_sem ↓] theorem append_app22s (ty : TypeId) (args : Array Value) : Builtin.append_ #[22, 9] ty args = app22s ty args := rfl
theorem str_app (w : World) (base : Nat) (v : Value) (n : Nat) (xs : List UInt8) (s : ByteArray) (ho : w.ownsRow base 5 1 v n (bv xs)) (hmax : n + s.size ≤ 10000000) (hbase : base ≤ w.heap.size) :
    ∃ a' c' w', (∀ ty, (app22s ty #[v, .string s]).run Try.prog w = .ok (.slice a' (n + s.size) c') w') ∧ w'.ownsRow base 5 1 (.slice a' (n + s.size) c') (n + s.size) (bv (xs ++ sB s)) ∧ Below base w w' ∧ w.heap.size ≤ w'.heap.size := by
  obtain ⟨i, hi', hz, hsz, hby⟩ := info5
  obtain ⟨v', w', h1, h2, h3, _⟩ := Lib.run_append_own_string (P := Try.prog) w base 22 9 22 5 i Try.underlying22 Try.underlying9 hi' hz hsz hby v n (bv xs) ho s (by unfold maxLen; omega) (by omega) hbase
  obtain ⟨a', c', rfl, _⟩ := owns_slice h2
  exact ⟨a', c', w', fun ty => h1, by rw [bv_append]; exact h2, (Below.refl base w).grown h3 hbase (fun k hk => (owns_lt ho k hk).1), h3.size⟩
theorem row_strX {lo hi : Nat} {w : World} {a : Option Addr} {n c : Nat} {xs : List ByteArray} (h : Row lo hi w (.slice a n c) n (xs.map .string)) (hn : xs.length = n) (i : Nat) (hi' : i < n) : ∃ g o, a = some ⟨g, o, none⟩ ∧ w.cell? ⟨g, o + i, none⟩ = some (.string (xs.getD i ⟨#[]⟩)) := by
  obtain ⟨g, o, rfl, _, _, hcell⟩ := h.at (by omega)
  exact ⟨g, o, rfl, hcell i _ (by rw [List.getElem?_map, List.getElem?_eq_getElem (show i < xs.length by omega), List.getD_eq_getElem?_getD, List.getElem?_eq_getElem (show i < xs.length by omega)]; rfl)⟩
theorem txs_take {ts : List ByteArray} {i : Nat} (h : i < ts.length) : txs ((ts.take (i + 1)).map sB) = txs ((ts.take i).map sB) ++ tx (sB (ts.getD i ⟨#[]⟩)) := by
  rw [List.take_add_one, List.getElem?_eq_getElem h, List.map_append, List.getD_eq_getElem?_getD, List.getElem?_eq_getElem h]
  exact txs_snoc _ _
theorem txs_le (l : List (List UInt8)) (i : Nat) : (txs (l.take i)).length ≤ (txs l).length := by
  induction l generalizing i with
  | nil => simp
  | cons a r ih =>
    cases i with
    | zero => simp [txs]
    | succ i => rw [List.take_succ_cons, txs, txs, List.length_append, List.length_append]; have := ih i; omega
theorem tx_len (s : List UInt8) : (tx s).length = 8 + s.length + padN s.length := by unfold tx; rw [List.length_append, List.length_append, lenB_length, List.length_replicate]
set_option maxRecDepth 20000 in
set_option maxHeartbeats 2000000 in
theorem writeTexts_any (c : Nat) (v : Value) (xs : List UInt8) (ts : List ByteArray) (lo hi : Nat) (a : Option Addr) (n ct : Nat) (w : World) (hS : Has c w v xs) (hr : Row lo hi w (.slice a n ct) n (ts.map .string)) (hn : ts.length = n) (hhi : hi ≤ w.heap.size) (hn1 : n ≤ 1000) (hmax : xs.length + (txs (ts.map sB)).length ≤ 10000000) (hmt : (txs (ts.map sB)).length ≤ 960000) :
    Calls Try.prog 21 #[.func (Fn.func 12) #[] #[.pointer (some ⟨c, 0, none⟩)], .slice a n ct] w fun e w' => e = .returned (.tuple #[]) ∧ SkA c w v (xs ++ txs (ts.map sB)) w' := by
  have HR := hide (And.intro hr hn)
  have HS := hide (And.intro hS (And.intro hmax hmt))
  clear hS hr hn hmax hmt
  go_enter Try.func21, Try.ntmps21
  go_wp2_with fail
  go_loopw [9, 4] (fun vi vp wr => ∃ (i : Nat) (a' : Option Addr) (c' L : Nat), i ≤ n ∧ vi = .int .i64 (i : Int) ∧ vp = .slice a' L c' ∧ Hid (L = (txs ((ts.take i).map sB)).length ∧ wr.ownsRow w.heap.size 5 1 (.slice a' L c') L (bv (txs ((ts.take i).map sB)))) ∧ Below w.heap.size w wr) (fun vi _ _ => n - (intOf vi).toNat)
  case atStart => exact ⟨0, none, 0, 0, by omega, rfl, rfl, ⟨by simp [txs], by simpa [txs, bv] using World.ownsRow_nil _ _ _ _⟩, Below.refl _ _⟩
  case round =>
    obtain ⟨i, a', c', L, hi1, rfl, rfl, hO, hb⟩ := hrel
    have hsb := hb.size
    by_cases hlt : i < n
    · obtain ⟨g, o, rfl, hcx⟩ := row_strX ((unhide HR).1.below hb hhi) (unhide HR).2 i hlt
      have hit : i < ts.length := by rw [(unhide HR).2]; exact hlt
      have htk := txs_take hit
      have hLe := (unhide hO).1
      have hle1 : (txs ((ts.take (i + 1)).map sB)).length ≤ 960000 := by
        rw [List.map_take]; exact Nat.le_trans (txs_le _ _) (unhide HS).2.2
      rw [htk, List.length_append, ← hLe, tx_len] at hle1
      have hsz : (sB (ts.getD i ⟨#[]⟩)).length = (ts.getD i ⟨#[]⟩).size := by unfold sB; rfl
      rw [hsz] at hle1
      generalize hsi : ts.getD i ⟨#[]⟩ = s at *
      have H1 := hide (lenapp_any w.heap.size a' c' L s.size (txs ((ts.take i).map sB)) wr (unhide hO).2 (by omega) (by omega))
      have HTK : Hid (txs ((ts.take (i + 1)).map sB) = txs ((ts.take i).map sB) ++ tx (sB s)) := htk
      clear htk hsi hsz hLe
      generalize txs ((ts.take i).map sB) = T0 at *
      go_wp2_with fail
      refine (unhide H1).mono ?_
      rintro e w2 ⟨a2, c2, rfl, ho2, hb2, hs2⟩
      obtain ⟨a3, c3, w3, happ, ho3, hb3, hs3⟩ := str_app w2 w.heap.size (.slice a2 (L + 8) c2) (L + 8) _ s ho2 (by omega) (by omega)
      have H4 := hide (padapp_any w.heap.size a3 c3 (L + 8 + s.size) s.size _ w3 ho3 (by omega) (by omega) (by omega))
      have Hb3 := hide (hb.trans (hb2.trans hb3))
      clear H1 ho2 hb2 ho3 hb3 hb hcx
      go_wp2_with fail
      refine (unhide H4).mono ?_
      rintro e w4 ⟨a4, c4, rfl, ho4, hb4, hs4⟩
      have HN : Hid (L + 8 + s.size + padN s.size = (txs ((ts.take (i + 1)).map sB)).length ∧ w4.ownsRow w.heap.size 5 1 (.slice a4 (L + 8 + s.size + padN s.size) c4) (L + 8 + s.size + padN s.size) (bv (txs ((ts.take (i + 1)).map sB)))) := by
        show _ ∧ _
        rw [unhide HTK]
        have e1 : T0 ++ tx (sB s) = T0 ++ lenB 8 s.size ++ sB s ++ List.replicate (padN s.size) 0 := by
          unfold tx
          have : (sB s).length = s.size := by unfold sB; rfl
          rw [this]
          simp only [List.append_assoc]
        refine ⟨?_, by rw [e1]; exact ho4⟩
        rw [List.length_append, tx_len, ← (unhide hO).1]
        have : (sB s).length = s.size := by unfold sB; rfl
        rw [this]; omega
      have Hb4 := hide ((unhide Hb3).trans hb4)
      clear H4 ho4 hb4 happ hO
      go_wp2_with fail
      go_roundw
      case rel => exact ⟨i + 1, a4, c4, L + 8 + s.size + padN s.size, by omega, by go_num, rfl, unhide HN, unhide Hb4⟩
      case measure => simp [intOf]; try omega
    · obtain rfl : n = i := by omega
      have hful : ts.take n = ts := List.take_of_length_le (by rw [(unhide HR).2]; omega)
      rw [hful] at hO
      have hL := (unhide hO).1
      have HK := hide (sink_any c v xs (txs (ts.map sB)) w.heap.size wr.heap.size a' L c' wr ((unhide HS).1.kept hb) (owns_row (unhide hO).2 (owns_lt (unhide hO).2)) hL.symm (by have := (unhide HS).2.1; omega))
      have HG : Hid (Gt c w wr v v) := Gt.of_below v hb
      clear hO hL hful hb
      go_wp2_with fail
      refine (unhide HK).mono ?_
      rintro e w5 ⟨rfl, hA⟩
      have HA := hide (SkA.trans (unhide HG) hA)
      clear HK hA
      go_wp2_with fail
      exact bodyPost_end (v := .tuple #[]) (by simp [results, Try.results21, go_sem]) rfl ⟨rfl, unhide HA⟩
set_option maxRecDepth 20000 in
set_option maxHeartbeats 2000000 in
theorem writeData_any (c : Nat) (v : Value) (xs ys : List UInt8) (lo hi : Nat) (a : Option Addr) (m d : Nat) (w : World) (hS : Has c w v xs) (hr : Row lo hi w (.slice a m d) m (bv ys)) (hm : ys.length = m) (hhi : hi ≤ c) (hmax : xs.length + (tx ys).length ≤ 10000000) :
    Calls Try.prog 36 #[.func (Fn.func 12) #[] #[.pointer (some ⟨c, 0, none⟩)], .slice a m d] w fun e w' => e = .returned (.tuple #[]) ∧ SkA c w v (xs ++ tx ys) w' := by
  have hcl := hS.ctr.lt
  rw [tx_len, hm] at hmax
  have H1 := hide (lenapp_any w.heap.size none 0 0 m [] w (by simpa [bv] using World.ownsRow_nil _ _ _ _) (by omega) (Nat.le_refl _))
  have HS := hide (And.intro hS (And.intro hr hm))
  clear hS hr hm
  go_enter Try.func36, Try.ntmps36
  go_wp2_with fail
  refine (unhide H1).mono ?_
  rintro e w1 ⟨a1, c1, rfl, ho1, hb1, hs1⟩
  rw [List.nil_append] at ho1
  have hS1 := (unhide HS).1.kept hb1
  have H2 := hide (sink_any c v xs (lenB 8 m) w.heap.size w1.heap.size a1 8 c1 w1 hS1 (owns_row ho1 (owns_lt ho1)) (lenB_length 8 m) (by omega))
  have HG1 : Hid (Gt c w w1 v v) := Gt.of_below v hb1
  have Hr1 := hide ((unhide HS).2.1.below hb1 (by omega))
  clear H1 ho1 hb1 hS1
  go_wp2_with fail
  refine (unhide H2).mono ?_
  rintro e w2 ⟨rfl, v2, hg2, hS2⟩
  have HG2 := hide ((unhide HG1).trans hg2)
  have hr2 := hg2.row (unhide Hr1) (by omega) (.inr hhi) (fun g hg => by
    have := (owns_lt (unhide HS).1.row g hg).1; omega)
  have hl8 := lenB_length 8 m
  have H3 := hide (sink_any c v2 _ ys lo hi a m d w2 hS2 hr2 (unhide HS).2.2 (by rw [List.length_append, hl8]; omega))
  clear H2 hg2 HG1 Hr1 hS2 hr2
  go_wp2_with fail
  refine (unhide H3).mono ?_
  rintro e w3 ⟨rfl, v3, hg3, hS3⟩
  have HG3 := hide ((unhide HG2).trans hg3)
  have H4 := hide (padapp_any w3.heap.size none 0 0 m [] w3 (by simpa [bv] using World.ownsRow_nil _ _ _ _) (by omega) (by omega) (Nat.le_refl _))
  have HS3 := hide hS3
  clear H3 hg3 HG2 hS3
  go_wp2_with fail
  refine (unhide H4).mono ?_
  rintro e w4 ⟨a4, c4, rfl, ho4, hb4, hs4⟩
  rw [List.nil_append, Nat.zero_add] at ho4
  have H5 := hide (sink_any c v3 _ (List.replicate (padN m) 0) w3.heap.size w4.heap.size a4 (padN m) c4 w4 ((unhide HS3).kept hb4) (owns_row ho4 (owns_lt ho4)) (by simp) (by rw [List.length_append, List.length_append, hl8, (unhide HS).2.2]; omega))
  have HG4 : Hid (Gt c w w4 v v3) := (unhide HG3).trans (Gt.of_below v3 hb4)
  clear H4 ho4 hb4 HG3
  go_wp2_with fail
  refine (unhide H5).mono ?_
  rintro e w5 ⟨rfl, hA⟩
  have HA : Hid (SkA c w v (xs ++ tx ys) w5) := by
    have := SkA.trans (unhide HG4) hA
    show SkA _ _ _ _ _
    unfold tx
    rw [(unhide HS).2.2]
    simpa only [List.append_assoc] using this
  clear H5 hA
  go_wp2_with fail
  exact bodyPost_end (v := .tuple #[]) (by simp [results, Try.results36, go_sem]) rfl ⟨rfl, unhide HA⟩
end Go.Proofs.Ytikamklgelcnhab
/- slices.BinarySearch among names that rise; strings.Cut at a slash. -/
namespace Go.Proofs.Ytikamklgelcnhab
open Go.RowKit
/-- Names that rise, each once. -/
def Rise (ns : List ByteArray) : Prop := ∀ i j, i < j → j < ns.length → (ns.getD i ⟨#[]⟩).toList < (ns.getD j ⟨#[]⟩).toList
/-- Where a name stands, or would, among names that rise. -/
def Found (ns : List ByteArray) (x : ByteArray) (e : Ending) : Prop :=
  ∃ (i : Nat) (b : Bool), e = .returned (.tuple #[.int .i64 (i : Int), .bool b]) ∧ i ≤ ns.length ∧ (∀ j, j < i → (ns.getD j ⟨#[]⟩).toList < x.toList) ∧ (∀ j, i ≤ j → j < ns.length → ¬ (ns.getD j ⟨#[]⟩).toList < x.toList) ∧ (b = true ↔ i < ns.length ∧ ns.getD i ⟨#[]⟩ = x)
theorem found_mk {ns : List ByteArray} {x : ByteArray} {n i : Nat} {b : Bool} (hn : n = ns.length) (h1 : i ≤ n) (h2 : ∀ j, j < i → (ns.getD j ⟨#[]⟩).toList < x.toList) (h3 : ∀ j, i ≤ j → j < n → ¬ (ns.getD j ⟨#[]⟩).toList < x.toList) (h4 : b = true ↔ i < n ∧ ns.getD i ⟨#[]⟩ = x) : Found ns x (.returned (.tuple #[.int .i64 (i : Int), .bool b])) := by
  subst hn; exact ⟨i, b, rfl, h1, h2, h3, h4⟩
end Go.Proofs.Ytikamklgelcnhab
/- Places: names with a slash between; strings.Cut of one. -/
namespace Go.Proofs.Ytikamklgelcnhab
open Go.RowKit
/-- Names with a slash between. -/
def joinB : List ByteArray → ByteArray
  | [] => ⟨#[]⟩
  | [n] => n
  | n :: m :: r => ⟨n.data ++ (#[47] ++ (joinB (m :: r)).data)⟩
theorem index_at (a b : List UInt8) (h : (47 : UInt8) ∉ a) : Lib.indexByte (a ++ 47 :: b) 47 = (a.length : Int) := by
  induction a with
  | nil => simp [Lib.indexByte]
  | cons x r ih =>
    have h1 : ¬ x = 47 := fun e => h (by simp [e])
    have h2 := ih (fun e => h (by simp [e]))
    simp only [List.cons_append, Lib.indexByte, h2]
    have e1 : (x == 47) = false := by simpa using h1
    have e2 : (((r.length : Nat) : Int) == -1) = false := by rw [beq_eq_false_iff_ne]; omega
    rw [e1, e2]
    simp
theorem index_none (a : List UInt8) (h : (47 : UInt8) ∉ a) : Lib.indexByte a 47 = -1 := by
  have h1 := (ib_neg a 47).2 h
  have h2 := Lib.indexByte_ge a 47
  omega
theorem join_head (n m : ByteArray) (r : List ByteArray) : (joinB (n :: m :: r)).extract 0 n.size = n := by
  apply ByteArray.ext
  rw [ByteArray.data_extract, joinB]
  apply Array.ext'
  rw [Array.toList_extract]
  simp
theorem join_list (n m : ByteArray) (r : List ByteArray) : (joinB (n :: m :: r)).data.toList = n.data.toList ++ 47 :: (joinB (m :: r)).data.toList := by rw [joinB]; simp
theorem join_rest (n m : ByteArray) (r : List ByteArray) : (joinB (n :: m :: r)).extract (n.size + 1) (joinB (n :: m :: r)).size = joinB (m :: r) := by
  apply ByteArray.ext
  rw [ByteArray.data_extract]
  apply Array.ext'
  have e1 : (joinB (n :: m :: r)).size = (joinB (n :: m :: r)).data.toList.length := by simp
  rw [Array.toList_extract, List.extract_eq_take_drop, e1, join_list, List.take_of_length_le (by simp)]
  have e2 : n.size + 1 = (n.data.toList ++ [47]).length := by simp
  rw [e2, show n.data.toList ++ 47 :: (joinB (m :: r)).data.toList = (n.data.toList ++ [47]) ++ (joinB (m :: r)).data.toList by simp, List.drop_left']
  rfl
theorem join_size (n m : ByteArray) (r : List ByteArray) : (joinB (n :: m :: r)).size = n.size + 1 + (joinB (m :: r)).size := by
  have h := congrArg List.length (join_list n m r)
  simp at h
  omega
end Go.Proofs.Ytikamklgelcnhab
/- strings.SplitSeq at a slash: the parts of a place, one by one, for a round that may say no more. -/
namespace Go.Proofs.Ytikamklgelcnhab
open Go.RowKit Go.Shelf
attribute [local go_sem] Oper.semAt_some
/-- How long the text in a box is. -/
def sizeAt (b : Nat) (w : World) : Nat := match w.cell? ⟨b, 0, none⟩ with
  | some (.string s) => s.size
  | _ => 0
theorem join_lt (n m : ByteArray) (r : List ByteArray) : (joinB (m :: r)).size < (joinB (n :: m :: r)).size := by rw [join_size]; omega
theorem join_mem {parts : List ByteArray} {x : ByteArray} (h : x ∈ parts) : x.size ≤ (joinB parts).size := by
  induction parts with
  | nil => simp at h
  | cons a p ih =>
    cases p with
    | nil => simp at h; subst h; exact Nat.le_refl _
    | cons m r =>
      rw [join_size]
      rcases List.mem_cons.1 h with rfl | h
      · omega
      · have := ih h; omega
theorem join_suffix (pre rest : List ByteArray) (hr : rest ≠ []) : (joinB rest).size ≤ (joinB (pre ++ rest)).size := by
  induction pre with
  | nil => simp
  | cons a p ih =>
    cases h : p ++ rest with
    | nil => simp at h; exact absurd h.2 hr
    | cons m r =>
      rw [h] at ih
      rw [List.cons_append, h, join_size]
      omega
end Go.Proofs.Ytikamklgelcnhab
/- isPlace, in the code. -/
namespace Go.Proofs.Ytikamklgelcnhab
open Go.RowKit Go.Shelf
attribute [local go_sem] Oper.semAt_some
/-- What stands while the parts of a place are gone through. -/
structure Pl (w : World) (l D : Nat) (r : Loop) (W : World) : Prop where
  old : Below w.heap.size w W
  res : W.heap[w.heap.size]? = some (.cells #[.bool false] 4)
  str : ∃ v, W.heap[w.heap.size + 1]? = some (.cells #[v] 9)
  sep : W.heap[w.heap.size + 1 + 1]? = some (.cells #[.string ⟨#[47]⟩] 9)
  nul : W.heap[w.heap.size + 1 + 1 + 1]? = some (.cells #[.int .i64 0] 3)
  rcd : W.heap[l]? = some (.loop r)
  dfr : W.heap[D]? = some (.deferred (some []))
theorem cell0 {W : World} {b : Nat} {v : Value} {t : TypeId} (h : W.heap[b]? = some (.cells #[v] t)) : W.cell? ⟨b, 0, none⟩ = some v ∧ W.frozen? ⟨b, 0, none⟩ = false := by
  refine ⟨?_, ?_⟩
  · unfold World.cell?; rw [show W.heap[b]? = _ from h]; rfl
  · unfold World.frozen?; rw [show W.heap[b]? = _ from h]; simp
theorem set0 {W : World} {b : Nat} {v u : Value} {t : TypeId} (h : W.heap[b]? = some (.cells #[v] t)) : (W.setCell ⟨b, 0, none⟩ u).heap[b]? = some (.cells #[u] t) := by
  simp [World.setCell, Array.getElem?_modify, h]
theorem Pl.set {w W : World} {l D : Nat} {r : Loop} (h : Pl w l D r W) (v : Value) (hl : w.heap.size + 1 < l) (hD : w.heap.size + 1 < D) : Pl w l D r (W.setCell ⟨w.heap.size + 1, 0, none⟩ v) := by
  obtain ⟨h1, h2, ⟨u, h3⟩, h4, h5, h6, h7⟩ := h
  exact ⟨h1.setCell (by simp) _, by rw [set_other _ _ _ _ _ (by omega)]; exact h2, ⟨v, set0 h3⟩, by rw [set_other _ _ _ _ _ (by omega)]; exact h4, by rw [set_other _ _ _ _ _ (by omega)]; exact h5, by rw [set_other _ _ _ _ _ (by omega)]; exact h6, by rw [set_other _ _ _ _ _ (by omega)]; exact h7⟩
theorem Pl.put {w W : World} {l D : Nat} {r : Loop} (h : Pl w l D r W) (r' : Loop) (hl : w.heap.size + 1 + 1 + 1 < l) (hD : D ≠ l) : Pl w l D r' (W.putObj l (.loop r')) := by
  obtain ⟨h1, h2, ⟨u, h3⟩, h4, h5, h6, h7⟩ := h
  have hlt := (Array.getElem?_eq_some_iff.1 h6).1
  exact ⟨h1.grown (grownBy_putObj' W l _) (Nat.le_trans (Nat.le_refl _) h1.size) (fun k e => by cases e; omega), by rw [World.putObj_heap_other (by omega)]; exact h2, ⟨u, by rw [World.putObj_heap_other (by omega)]; exact h3⟩, by rw [World.putObj_heap_other (by omega)]; exact h4, by rw [World.putObj_heap_other (by omega)]; exact h5, World.putObj_heap_same hlt, by rw [World.putObj_heap_other hD]; exact h7⟩
theorem Pl.setRes {w W : World} {l D : Nat} {r : Loop} (h : Pl w l D r W) (hl : w.heap.size + 1 < l) (hD : w.heap.size + 1 < D) : Pl w l D r (W.setCell ⟨w.heap.size, 0, none⟩ (.bool false)) := by
  obtain ⟨h1, h2, ⟨u, h3⟩, h4, h5, h6, h7⟩ := h
  exact ⟨h1.setCell (by simp) _, set0 h2, ⟨u, by rw [set_other _ _ _ _ _ (by omega)]; exact h3⟩, by rw [set_other _ _ _ _ _ (by omega)]; exact h4, by rw [set_other _ _ _ _ _ (by omega)]; exact h5, by rw [set_other _ _ _ _ _ (by omega)]; exact h6, by rw [set_other _ _ _ _ _ (by omega)]; exact h7⟩
end Go.Proofs.Ytikamklgelcnhab
/- Texts with a slash between, taken apart and joined: one and the same. No Go text is named here. -/
namespace Go.Proofs.Ytikamklgelcnhab
def splitL : List UInt8 → List (List UInt8)
  | [] => [[]]
  | c :: r => if c = 47 then [] :: splitL r else match splitL r with
    | [] => [[c]]
    | h :: t => (c :: h) :: t
def joinL : List (List UInt8) → List UInt8
  | [] => []
  | [n] => n
  | n :: m :: r => n ++ 47 :: joinL (m :: r)
theorem splitL_ne (s : List UInt8) : splitL s ≠ [] := by
  cases s with
  | nil => simp [splitL]
  | cons c r =>
    rw [splitL]
    split
    · simp
    · split <;> simp
theorem join_split (s : List UInt8) : joinL (splitL s) = s := by
  induction s with
  | nil => rfl
  | cons c r ih =>
    rw [splitL]
    split
    · rename_i h
      cases h2 : splitL r with
      | nil => exact absurd h2 (splitL_ne r)
      | cons a t => rw [joinL, ← h2, ih, h]; rfl
    · cases h2 : splitL r with
      | nil => exact absurd h2 (splitL_ne r)
      | cons a t =>
        rw [h2] at ih
        cases t with
        | nil => simp [joinL] at ih ⊢; exact ih
        | cons b t => simp [joinL] at ih ⊢; exact ih
theorem split_no (s : List UInt8) : ∀ p ∈ splitL s, (47 : UInt8) ∉ p := by
  induction s with
  | nil => intro p hp; simp [splitL] at hp; subst hp; simp
  | cons c r ih =>
    rw [splitL]
    split
    · intro p hp
      rcases List.mem_cons.1 hp with rfl | h
      · simp
      · exact ih p h
    · rename_i hc
      cases h2 : splitL r with
      | nil => exact absurd h2 (splitL_ne r)
      | cons a t =>
        rw [h2] at ih
        intro p hp
        rcases List.mem_cons.1 hp with rfl | h
        · intro h
          rcases List.mem_cons.1 h with e | h
          · exact hc e.symm
          · exact ih a (by simp) h
        · exact ih p (by simp [h])
theorem split_app (a : List UInt8) (h : (47 : UInt8) ∉ a) (b : List UInt8) : splitL (a ++ 47 :: b) = a :: splitL b := by
  induction a with
  | nil => simp [splitL]
  | cons c r ih =>
    have hc : ¬ c = 47 := fun e => h (by simp [e])
    rw [List.cons_append, splitL, if_neg hc, ih (fun e => h (by simp [e]))]
theorem split_one (a : List UInt8) (h : (47 : UInt8) ∉ a) : splitL a = [a] := by
  induction a with
  | nil => rfl
  | cons c r ih =>
    have hc : ¬ c = 47 := fun e => h (by simp [e])
    rw [splitL, if_neg hc, ih (fun e => h (by simp [e]))]
theorem split_join (l : List (List UInt8)) (hne : l ≠ []) (h : ∀ p ∈ l, (47 : UInt8) ∉ p) : splitL (joinL l) = l := by
  induction l with
  | nil => exact absurd rfl hne
  | cons a r ih =>
    cases r with
    | nil => exact split_one a (h a (by simp))
    | cons b t => rw [joinL, split_app a (h a (by simp)), ih (by simp) (fun p hp => h p (by simp [hp]))]
theorem joinB_list (l : List ByteArray) : (joinB l).data.toList = joinL (l.map (·.data.toList)) := by
  induction l with
  | nil => rfl
  | cons a r ih =>
    cases r with
    | nil => rfl
    | cons b t => rw [join_list, ih]; rfl
/-- The parts of a text. -/
def partsB (s : ByteArray) : List ByteArray := (splitL s.data.toList).map fun l => ⟨l.toArray⟩
theorem partsB_ne (s : ByteArray) : partsB s ≠ [] := by
  unfold partsB
  intro h
  exact splitL_ne _ (List.map_eq_nil_iff.1 h)
theorem partsB_no (s : ByteArray) : ∀ p ∈ partsB s, (47 : UInt8) ∉ p.data.toList := by
  intro p hp
  obtain ⟨l, hl, rfl⟩ := List.mem_map.1 hp
  simpa using split_no _ l hl
theorem join_parts (s : ByteArray) : joinB (partsB s) = s := by
  apply ByteArray.ext
  apply Array.ext'
  rw [joinB_list]
  unfold partsB
  rw [List.map_map]
  have : ((fun x : ByteArray => x.data.toList) ∘ fun l : List UInt8 => (⟨l.toArray⟩ : ByteArray)) = id := by funext l; simp
  rw [this, List.map_id, join_split]
theorem parts_join (l : List ByteArray) (hne : l ≠ []) (h : ∀ p ∈ l, (47 : UInt8) ∉ p.data.toList) : partsB (joinB l) = l := by
  unfold partsB
  rw [joinB_list, split_join _ (by simpa using hne) (fun p hp => by obtain ⟨b, hb, rfl⟩ := List.mem_map.1 hp; exact h b hb), List.map_map]
  have : ((fun l : List UInt8 => (⟨l.toArray⟩ : ByteArray)) ∘ fun x : ByteArray => x.data.toList) = id := by funext x; cases x; simp
  rw [this, List.map_id]
theorem entB_no {s : ByteArray} (h : entB s = true) : (47 : UInt8) ∉ s.data.toList := fun hm => by
  have := entB_bad hm (.inl rfl)
  rw [h] at this; cases this
theorem entB_pos {s : ByteArray} (h : entB s = true) : 1 ≤ s.size := by
  unfold entB at h; exact (of_decide_eq_true h).1
end Go.Proofs.Ytikamklgelcnhab
/- Which texts are places. -/
namespace Go.Proofs.Ytikamklgelcnhab
open Go.RowKit
/-- A text is a place: names with a slash between. -/
def IsPl (s : ByteArray) (l : List ByteArray) : Prop := (∀ n ∈ l, entB n = true) ∧ s = joinB l
theorem isPl_parts {s : ByteArray} {l : List ByteArray} (h : IsPl s l) (h0 : s.size ≠ 0) : l = partsB s := by
  obtain ⟨h1, rfl⟩ := h
  exact (parts_join l (fun e => by subst e; exact h0 rfl) (fun p hp => entB_no (h1 p hp))).symm
end Go.Proofs.Ytikamklgelcnhab
/- A tree in memory of its own: rows that share no block. -/
namespace Go.Proofs.Ytikamklgelcnhab
open Go.RowKit
inductive Own (w : World) : Nat → Nat → Tr → List Value → Prop
  | mk (lo hi : Nat) (k : Int) (x : Bool) (d : ByteArray) (ns : List ByteArray) (ks : List Tr) (vd vn vk : Value) (Ks : List (List Value)) (L H : Nat → Nat) (hl : Ks.length = ks.length)
      (hd : w.ownsRow lo 5 1 vd d.size (byteVals d)) (hn : w.ownsRow lo 9 1 vn ns.length (ns.map .string)) (hk : w.ownsRow lo 26 5 vk ks.length Ks.flatten)
      (hin : ∀ g, (vd.ownBlock = some g ∨ vn.ownBlock = some g ∨ vk.ownBlock = some g) → g < hi) (hne : ∀ g, vk.ownBlock = some g → vd.ownBlock ≠ some g ∧ vn.ownBlock ≠ some g)
      (hdn : ∀ g, vn.ownBlock = some g → vd.ownBlock ≠ some g)
      (hK : ∀ (i : Nat) (t : Tr) (c : List Value), ks[i]? = some t → Ks[i]? = some c → Own w (L i) (H i) t c)
      (hLH : ∀ i, i < ks.length → lo ≤ L i ∧ H i ≤ hi ∧ ∀ g, (vd.ownBlock = some g ∨ vn.ownBlock = some g ∨ vk.ownBlock = some g) → g < L i ∨ H i ≤ g)
      (hdis : ∀ i j, i < j → j < ks.length → H i ≤ L j) : Own w lo hi (.mk k x d ns ks) [.int .i64 k, .bool x, vd, vn, vk]
theorem Own.same {w w' : World} {lo hi : Nat} {T : Tr} {cs : List Value} (h : Own w lo hi T cs) : (∀ k, lo ≤ k → k < hi → w'.heap[k]? = w.heap[k]?) → Own w' lo hi T cs := by
  induction h with
  | mk lo hi k x d ns ks vd vn vk Ks L H hl hd hn hk hin hne hdn hK hLH hdis ih =>
    intro hs
    refine .mk lo hi k x d ns ks vd vn vk Ks L H hl ?_ ?_ ?_ hin hne hdn (fun i t c h1 h2 => ih i t c h1 h2 (fun k hk1 hk2 => ?_)) hLH hdis
    · exact owns_same hd (fun g hg => hs g (owns_lt hd g hg).1 (hin g (.inl hg))) (fun _ _ h => h)
    · exact owns_same hn (fun g hg => hs g (owns_lt hn g hg).1 (hin g (.inr (.inl hg)))) (fun _ _ h => h)
    · exact owns_same hk (fun g hg => hs g (owns_lt hk g hg).1 (hin g (.inr (.inr hg)))) (fun _ _ h => h)
    · have := hLH i (List.getElem?_eq_some_iff.1 h1).1
      exact hs k (by omega) (by omega)
theorem Own.lies {w : World} {lo hi : Nat} {T : Tr} {cs : List Value} (h : Own w lo hi T cs) : Lies lo hi w T cs := by
  induction h with
  | mk lo hi k x d ns ks vd vn vk Ks L H hl hd hn hk hin hne hdn hK hLH hdis ih =>
    refine .mk k x d ns ks vd vn vk Ks hl (owns_row hd (fun g hg => ⟨(owns_lt hd g hg).1, hin g (.inl hg)⟩)) (owns_row hn (fun g hg => ⟨(owns_lt hn g hg).1, hin g (.inr (.inl hg))⟩)) (owns_row hk (fun g hg => ⟨(owns_lt hk g hg).1, hin g (.inr (.inr hg))⟩)) (fun i t c h1 h2 => ?_)
    have := hLH i (List.getElem?_eq_some_iff.1 h1).1
    exact (ih i t c h1 h2).mono (by omega) (by omega)
theorem Own.mono {w : World} {lo hi lo' hi' : Nat} {T : Tr} {cs : List Value} (h : Own w lo hi T cs) (h1 : lo' ≤ lo) (h2 : hi ≤ hi') : Own w lo' hi' T cs := by
  cases h with
  | mk _ _ k x d ns ks vd vn vk Ks L H hl hd hn hk hin hne hdn hK hLH hdis =>
    refine .mk lo' hi' k x d ns ks vd vn vk Ks L H hl (owns_same hd (fun _ _ => rfl) (fun _ _ h => by omega)) (owns_same hn (fun _ _ => rfl) (fun _ _ h => by omega)) (owns_same hk (fun _ _ => rfl) (fun _ _ h => by omega)) (fun g hg => by have := hin g hg; omega) hne hdn hK (fun i hi => ?_) hdis
    have := hLH i hi
    exact ⟨by omega, by omega, this.2.2⟩
/-- A clone under way: so many names, so many kids yet. -/
structure Cl (Z : Nat) (w : World) (vn vk : Value) (ns : List ByteArray) (ks : List Tr) (p q : Nat) : Prop where
  names : w.ownsRow Z 9 1 vn p ((ns.take p).map .string)
  kids : ∃ (Ks : List (List Value)) (L H : Nat → Nat), Ks.length = q ∧ (∀ c ∈ Ks, c.length = 5) ∧ w.ownsRow Z 26 5 vk q Ks.flatten ∧
    (∀ (j : Nat) (t : Tr) (c : List Value), ks[j]? = some t → Ks[j]? = some c → Own w (L j) (H j) t c ∧ Z ≤ L j ∧ H j ≤ w.heap.size ∧ ∀ g, (vn.ownBlock = some g ∨ vk.ownBlock = some g) → g < L j ∨ H j ≤ g) ∧ ∀ i j, i < j → j < q → H i ≤ L j
  ne : ∀ g, vk.ownBlock = some g → vn.ownBlock ≠ some g
/-- Nothing of it has turned. -/
theorem Cl.same {Z : Nat} {w w' : World} {vn vk : Value} {ns : List ByteArray} {ks : List Tr} {p q : Nat} (h : Cl Z w vn vk ns ks p q) (hs : ∀ k, Z ≤ k → k < w.heap.size → w'.heap[k]? = w.heap[k]?) (hz : w.heap.size ≤ w'.heap.size) : Cl Z w' vn vk ns ks p q := by
  obtain ⟨hn, ⟨Ks, L, H, hKl, hK5, ho, hK, hdis⟩, hne⟩ := h
  refine ⟨owns_same hn (fun g hg => hs g (owns_lt hn g hg).1 (owns_lt hn g hg).2) (fun _ _ h => h), ⟨Ks, L, H, hKl, hK5, owns_same ho (fun g hg => hs g (owns_lt ho g hg).1 (owns_lt ho g hg).2) (fun _ _ h => h), fun j t c hj hc => ?_, hdis⟩, hne⟩
  obtain ⟨h1, h2, h3, h4⟩ := hK j t c hj hc
  exact ⟨h1.same (fun k hk1 hk2 => hs k (by omega) (by omega)), h2, by omega, h4⟩
/-- One more name. -/
theorem cl_name {Z : Nat} {wr w1 : World} {vn vk : Value} {ns : List ByteArray} {ks : List Tr} {p q : Nat} (s : ByteArray) (h : Cl Z wr vn vk ns ks p q) (hb : Below wr.heap.size wr w1) (hs : ns[p]? = some s) (hmax : p ≤ 1000000) (hZ : Z ≤ wr.heap.size) :
    ∃ a' c' w2, (∀ ty, (app23 ty #[vn, .slice (some ⟨w1.heap.size, 0, none⟩) 1 1]).run Try.prog (w1.alloc (.cells #[.string s] 9)) = .ok (.slice a' (p + 1) c') w2) ∧ Cl Z w2 (.slice a' (p + 1) c') vk ns ks (p + 1) q ∧ Below Z wr w2 ∧ wr.heap.size ≤ w2.heap.size := by
  have h1 := h.same (w' := w1.alloc (.cells #[.string s] 9)) (fun k _ hk => by rw [Below.heap_alloc _ _ _ (by have := hb.size; omega), hb.block k hk]) (by have := hb.size; simp; omega)
  obtain ⟨hn, ⟨Ks, L, H, hKl, hK5, ho, hK, hdis⟩, hne⟩ := h1
  have hsz := hb.size
  obtain ⟨v', w2, happ, ho2, hg, hf⟩ := app23_own _ Z _ _ vn p _ _ 1 1 [.string s] hn (one_row w1 [.string s] 9) rfl (fun u hu => by simp at hu; subst hu; rfl) (by omega) (by simp; omega)
  obtain ⟨a', c', rfl, _⟩ := owns_slice ho2
  have hs1 : (w1.alloc (.cells #[.string s] 9)).heap.size = w1.heap.size + 1 := by simp
  have hs2 := hg.size
  rw [hs1] at hs2 hf
  have hb0 : Below Z wr (w1.alloc (.cells #[.string s] 9)) := (hb.mono hZ).alloc (by omega) _
  refine ⟨a', c', w2, happ, ⟨?_, ⟨Ks, L, H, hKl, hK5, owns_same ho (fun g hgk => hg.block g (owns_lt ho g hgk).2 (fun e => hne g hgk e.symm)) (fun _ _ h => h), fun j t c hj hc => ?_, hdis⟩, ?_⟩, hb0.grown hg (by omega) (fun k hk => (owns_lt hn k hk).1), by omega⟩
  · rw [List.take_add_one, hs]
    simpa using ho2
  · obtain ⟨q1, q2, q3, q4⟩ := hK j t c hj hc
    rw [hs1] at q3
    refine ⟨q1.same (fun k hk1 hk2 => hg.block k (by rw [hs1]; omega) (fun e => by have := q4 k (.inl e.symm); omega)), q2, by omega, fun g hgv => ?_⟩
    rcases hgv with hgv | hgv
    · rcases hf with e | e
      · exact q4 g (.inl (by rw [← e]; exact hgv))
      · rw [e] at hgv; simp at hgv; omega
    · exact q4 g (.inr hgv)
  · intro g hgk e
    rcases hf with e2 | e2
    · exact hne g hgk (by rw [← e2]; exact e)
    · rw [e2] at e
      have := (owns_lt ho g hgk).2
      simp at e
      omega
/-- One more kid. -/
theorem cl_kid {Z : Nat} {wr w1 : World} {vn vk : Value} {ns : List ByteArray} {ks : List Tr} {p q : Nat} {cs : List Value} {t : Tr} (h : Cl Z wr vn vk ns ks p q) (hb : Below wr.heap.size wr w1) (hL : Own w1 wr.heap.size w1.heap.size t cs) (ht : ks[q]? = some t) (hmax : q ≤ 1000000) (hZ : Z ≤ wr.heap.size) :
    ∃ a' c' w2, (∀ ty, (app24 ty #[vk, .slice (some ⟨w1.heap.size, 0, none⟩) 1 1]).run Try.prog (w1.alloc (.cells cs.toArray 26)) = .ok (.slice a' (q + 1) c') w2) ∧ Cl Z w2 vn (.slice a' (q + 1) c') ns ks p (q + 1) ∧ Below Z wr w2 ∧ wr.heap.size ≤ w2.heap.size := by
  have hsz := hb.size
  have hs1 : (w1.alloc (.cells cs.toArray 26)).heap.size = w1.heap.size + 1 := by simp
  have hsame : ∀ k, k < wr.heap.size → (w1.alloc (.cells cs.toArray 26)).heap[k]? = wr.heap[k]? := fun k hk => by rw [Below.heap_alloc _ _ _ (by omega), hb.block k hk]
  obtain ⟨hn0, ⟨Ks, L, H, hKl, hK5, ho0, hK, hdis⟩, hne⟩ := h
  have hn := owns_same (base' := Z) hn0 (fun g hg => hsame g (owns_lt hn0 g hg).2) (fun _ _ h => h)
  have ho := owns_same (base' := Z) ho0 (fun g hg => hsame g (owns_lt ho0 g hg).2) (fun _ _ h => h)
  obtain ⟨v', w2, happ, ho2, hg, hf⟩ := app24_own _ Z _ _ vk q _ _ 1 1 cs ho (one_row w1 cs 26) (by rw [hL.lies.length]) hL.lies.one (by omega) (by simp; omega)
  obtain ⟨a', c', rfl, _⟩ := owns_slice ho2
  have hs2 := hg.size
  rw [hs1] at hs2 hf
  have hb0 : Below Z wr (w1.alloc (.cells cs.toArray 26)) := (hb.mono hZ).alloc (by omega) _
  refine ⟨a', c', w2, happ, ⟨?_, ⟨Ks ++ [cs], fun j => if j < q then L j else wr.heap.size, fun j => if j < q then H j else w1.heap.size, ?_, ?_, ?_, fun j t' c hj hc => ?_, ?_⟩, ?_⟩, hb0.grown hg (by omega) (fun k hk => (owns_lt ho k hk).1), by omega⟩
  · exact owns_same hn (fun g hgn => hg.block g (by have := (owns_lt hn0 g hgn).2; omega) (fun e => hne g e.symm hgn)) (fun _ _ h => h)
  · rw [List.length_append, hKl]; rfl
  · intro c hc
    rcases List.mem_append.1 hc with h | h
    · exact hK5 c h
    · simp at h; subst h; exact hL.lies.length
  · rw [List.flatten_append]; simpa using ho2
  · by_cases hji : j < q
    · rw [List.getElem?_append_left (by omega)] at hc
      obtain ⟨q1, q2, q3, q4⟩ := hK j t' c hj hc
      simp only [if_pos hji]
      refine ⟨q1.same (fun k hk1 hk2 => ?_), q2, by omega, fun g hgv => ?_⟩
      · rw [hg.block k (by rw [hs1]; omega) (fun e => by have := q4 k (.inr e.symm); omega), hsame k (by omega)]
      · rcases hgv with hgv | hgv
        · exact q4 g (.inl hgv)
        · rcases hf with e | e
          · exact q4 g (.inr (by rw [← e]; exact hgv))
          · rw [e] at hgv; simp at hgv; omega
    · obtain rfl : j = q := by
        have := (List.getElem?_eq_some_iff.1 hc).1
        simp at this; omega
      rw [ht] at hj
      cases hj
      rw [List.getElem?_append_right (by omega), hKl] at hc
      simp at hc
      subst hc
      simp only [if_neg (Nat.lt_irrefl j)]
      refine ⟨hL.same (fun k hk1 hk2 => ?_), hZ, by omega, fun g hgv => ?_⟩
      · rw [hg.block k (by rw [hs1]; omega) (fun e => by have := (owns_lt ho0 k e.symm).2; omega), Below.heap_alloc _ _ _ (by omega)]
      · rcases hgv with hgv | hgv
        · have := (owns_lt hn0 g hgv).2; omega
        · rcases hf with e | e
          · have := (owns_lt ho0 g (by rw [← e]; exact hgv)).2; omega
          · rw [e] at hgv; simp at hgv; omega
  · intro i j hij hj
    by_cases hjq : j < q
    · simp only [if_pos hjq, if_pos (show i < q by omega)]; exact hdis i j hij hjq
    · obtain rfl : j = q := by omega
      simp only [if_neg (Nat.lt_irrefl j), if_pos hij]
      have hqk := (List.getElem?_eq_some_iff.1 ht).1
      exact (hK i ks[i] Ks[i] (List.getElem?_eq_getElem (by omega)) (List.getElem?_eq_getElem (by omega))).2.2.1
  · intro g hgk e
    rcases hf with e2 | e2
    · exact hne g (by rw [← e2]; exact hgk) e
    · rw [e2] at hgk
      have := (owns_lt hn0 g e).2
      simp at hgk
      omega
/-- The clone is whole. -/
theorem cl_end {Z lo : Nat} {w : World} {k : Int} {x : Bool} {d : ByteArray} {ns : List ByteArray} {ks : List Tr} {vd vn vk : Value} (h : Cl Z w vn vk ns ks ns.length ks.length) (hd : w.ownsRow lo 5 1 vd d.size (byteVals d)) (hdZ : ∀ g, vd.ownBlock = some g → g < Z) (hlo : lo ≤ Z) : Own w lo w.heap.size (.mk k x d ns ks) [.int .i64 k, .bool x, vd, vn, vk] := by
  obtain ⟨hn, ⟨Ks, L, H, hKl, hK5, ho, hK, hdis⟩, hne⟩ := h
  rw [List.take_length] at hn
  refine .mk lo w.heap.size k x d ns ks vd vn vk Ks L H hKl hd (owns_same hn (fun _ _ => rfl) (fun _ _ h => by omega)) (owns_same ho (fun _ _ => rfl) (fun _ _ h => by omega)) ?_ ?_ ?_ (fun i t c h1 h2 => (hK i t c h1 h2).1) (fun i hi => ?_) hdis
  · rintro g (h | h | h)
    · exact (owns_lt hd g h).2
    · exact (owns_lt hn g h).2
    · exact (owns_lt ho g h).2
  · intro g hg
    refine ⟨fun e => ?_, hne g hg⟩
    have h1 := hdZ g e
    have h2 := (owns_lt ho g hg).1
    omega
  · intro g hg e
    have h1 := hdZ g e
    have h2 := (owns_lt hn g hg).1
    omega
  · obtain ⟨_, h2, h3, h4⟩ := hK i ks[i] Ks[i] (List.getElem?_eq_getElem hi) (List.getElem?_eq_getElem (by omega))
    refine ⟨by omega, h3, fun g hg => ?_⟩
    rcases hg with hg | hg
    · have := hdZ g hg; omega
    · exact h4 g hg
end Go.Proofs.Ytikamklgelcnhab
/- slices.Grow of nothing. -/
namespace Go.Proofs.Ytikamklgelcnhab
open Go.RowKit
def app23z (ty : TypeId) (args : Array Value) : Sem Value := Builtin.append_ #[23, 3] ty args
@[go_sem ↓] theorem append_app23z (ty : TypeId) (args : Array Value) : Builtin.append_ #[23, 3] ty args = app23z ty args := rfl
def app24z (ty : TypeId) (args : Array Value) : Sem Value := Builtin.append_ #[24, 3] ty args
@[go_sem ↓] theorem append_app24z (ty : TypeId) (args : Array Value) : Builtin.append_ #[24, 3] ty args = app24z ty args := rfl
end Go.Proofs.Ytikamklgelcnhab
/- Clone, in the document's own answer. -/
namespace Go.Proofs.Ytikamklgelcnhab
open Go.RowKit
end Go.Proofs.Ytikamklgelcnhab
