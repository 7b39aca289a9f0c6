/- Check, in the document's own answer: a directory and all below. -/
import Derived.Test.YthfjofmfiklegaaDoorRefodd
namespace Go.Proofs.YthfjofmfiklegaaDoor
open Go.RowKit
set_option maxRecDepth 20000 in
set_option maxHeartbeats 1000000 in
theorem chkR_any (T : Tr) : ∀ (lo hi : Nat) (cs : List Value) (w : World) (c deep n : Nat), Lies lo hi w T cs → wt T ≤ 100000 → Ctr w c (.int .i64 (n : Int)) → hi ≤ c → n ≤ 65536 → deep ≤ 65 →
    Calls Tryd.prog 30 #[.agg cs.toArray, .int .i64 (deep : Int), .pointer (some ⟨c, 0, none⟩)] w fun e w' => e = .returned (.int .i64 (((chk T deep n).1 : Nat) : Int)) ∧ Sole c w w' ∧ Ctr w' c (.int .i64 (((chk T deep n).2 : Nat) : Int)) := by
  induction T using Tr.ind with
  | h k x d ns ks ih =>
  intro lo hi cs w c deep n hL hW hC hhi hn0 hd0
  by_cases hflat : k ≠ 2 ∨ 65536 < n + 1 ∨ 64 < deep
  · exact chkR_flat k x d ns ks lo hi cs w c deep n hL hW hC hhi hn0 hd0 hflat
  obtain rfl : k = 2 := by
    by_cases h : k = 2
    · exact h
    · exact absurd (.inl h) hflat
  have hbig : ¬ (65536 < n + 1 ∨ 64 < deep) := fun h => hflat (.inr h)
  clear hflat
  by_cases hodd : (x = true ∨ 0 < d.size ∨ ns.length ≠ ks.length) ∨ ns.length = 0
  · exact chkR_odd x d ns ks lo hi cs w c deep n hL hW hC hhi hn0 hd0 hbig hodd
  have hform : ¬ (x = true ∨ 0 < d.size ∨ ns.length ≠ ks.length) := fun h => hodd (.inl h)
  have hn3 : 0 < ns.length := by
    have : ¬ ns.length = 0 := fun h => hodd (.inr h)
    omega
  clear hodd
  have hSm := small_of hW
  cases hL with
  | mk _ _ _ _ _ vd vn vk Ks hl hd hn hk hK =>
  obtain ⟨ad, cd, rfl, hcd⟩ := hd.slice
  obtain ⟨an, cn, rfl, hcn⟩ := hn.slice
  obtain ⟨ak, ck, rfl, hck⟩ := hk.slice
  have hcl := hC.lt
  obtain ⟨z, hz⟩ : ∃ z : Int, z = (n : Int) := ⟨_, rfl⟩
  rw [← hz] at hC
  have HC := hide hC
  have hkl := hSm.k
  obtain ⟨hcc, hcf⟩ := hC
  have hS0 : Sole c w ((w.setCell ⟨c, 0, none⟩ (.int .i64 (z + 1))).alloc (.cells #[.int .i64 2, .bool x, .slice ad d.size cd, .slice an ns.length cn, .slice ak ks.length ck] 26)) := (((Sole.refl c w).setCell 0 _).alloc _)
  have hB0 : Bx ((w.setCell ⟨c, 0, none⟩ (.int .i64 (z + 1))).alloc (.cells #[.int .i64 2, .bool x, .slice ad d.size cd, .slice an ns.length cn, .slice ak ks.length ck] 26)) w.heap.size (.int .i64 2) (.bool x) (.slice ad d.size cd) (.slice an ns.length cn) (.slice ak ks.length ck) := bx_new' _ _ _ _ _ _ _ _
  have hC0 : Ctr ((w.setCell ⟨c, 0, none⟩ (.int .i64 (z + 1))).alloc (.cells #[.int .i64 2, .bool x, .slice ad d.size cd, .slice an ns.length cn, .slice ak ks.length ck] 26)) c (.int .i64 (z + 1)) :=
    ((unhide HC).set (.int .i64 (z + 1))).below ((Below.refl w.heap.size _).alloc (by simp) (.cells #[.int .i64 2, .bool x, .slice ad d.size cd, .slice an ns.length cn, .slice ak ks.length ck] 26)) hcl
  have H0 := hide (And.intro hS0 (And.intro hB0 hC0))
  have HH : Hid (∀ v0 v1 v2 v3 v4, Sole c w ((w.setCell ⟨c, 0, none⟩ (.int .i64 (z + 1))).alloc (.cells #[v0, v1, v2, v3, v4] 26)) ∧ Ctr ((w.setCell ⟨c, 0, none⟩ (.int .i64 (z + 1))).alloc (.cells #[v0, v1, v2, v3, v4] 26)) c (.int .i64 (z + 1))) := fun v0 v1 v2 v3 v4 =>
    ⟨(((Sole.refl c w).setCell 0 _).alloc _), ((unhide HC).set (.int .i64 (z + 1))).below ((Below.refl w.heap.size _).alloc (by simp) (.cells #[v0, v1, v2, v3, v4] 26)) hcl⟩
  clear hS0 hB0 hC0
  obtain ⟨E, M, hEM⟩ : ∃ E M, chk (.mk 2 x d ns ks) deep n = (E, M) := ⟨_, _, rfl⟩
  rw [hEM]
  simp only
  have HEM := hide hEM
  clear hEM
  have hn1 : z ≤ 1000000 := by omega
  have hn2 : 0 ≤ z := by omega
  have HZ : Hid (((n + 1 : Nat) : Int) = z + 1) := by show ((n + 1 : Nat) : Int) = z + 1; omega
  have hd1 : (deep : Int) ≤ 1000 := by omega
  have hkl1 : (ks.length : Int) ≤ 1000000 := by omega
  have hbig1 : ¬ (65536 : Int) < z + 1 := by omega
  have hbig2 : ¬ (64 : Int) < (deep : Int) := by omega
  have HNb : Hid (n + 1 ≤ 65536) := by show n + 1 ≤ 65536; omega
  have HD0 := hide (show deep ≤ 64 by omega)
  obtain ⟨rfl, hd6, hlen⟩ : x = false ∧ d.size = 0 ∧ ns.length = ks.length := by
    refine ⟨?_, ?_, ?_⟩
    · cases x
      · rfl
      · exact absurd (.inl rfl) hform
    · by_cases h : d.size = 0
      · exact h
      · exact absurd (.inr (.inl (by omega))) hform
    · by_cases h : ns.length = ks.length
      · exact h
      · exact absurd (.inr (.inr h)) hform
  clear hform
  have HY : Hid (okNames ns → chks ks (deep + 1) (n + 1) = (E, M)) := fun hok => by
    rw [← unhide HEM, chk, if_neg hbig, hd6, ← hlen, if_pos (loc_dir_ok hok)]
  have HX : Hid (¬ okNames ns → (9, n + 1) = (E, M)) := fun hok => by
    rw [← unhide HEM, chk, if_neg hbig, hd6, ← hlen, loc_dir_no hok, if_neg (by omega)]
  clear HEM
  have HSm := hide hSm
  have HR := hide (And.intro hn (And.intro hk (And.intro hl hK)))
  clear hd hn hk hK hl hSm hW hbig hn0 hd0 hkl hz
  rw [hd6] at H0
  obtain ⟨L, hLn⟩ : ∃ L, ns.length = L := ⟨_, rfl⟩
  have hLk : ks.length = L := by rw [← hlen]; exact hLn
  clear hlen
  rw [hLn] at hn3 hcn HR H0
  rw [hLk] at hkl1 hck HR H0
  have HL := hide (And.intro hLn hLk)
  rw [hd6, hLn, hLk]
  clear hLn hLk hd6 hcd
  go_enter Tryd.func30, Tryd.ntmps30
  go_wp2_with fail
  obtain ⟨hS0, hB0, hC0⟩ := unhide H0
  clear H0 HH hcc hcf HC
  generalize (w.setCell ⟨c, 0, none⟩ (.int .i64 (z + 1))).alloc (.cells #[.int .i64 2, .bool false, .slice ad 0 cd, .slice an L cn, .slice ak L ck] 26) = w1 at *
  rw [← unhide HZ] at hC0
  go_loopw [8] (fun vi wr => ∃ i : Nat, i ≤ L ∧ vi = .int .i64 (i : Int) ∧ Sole c w wr ∧ Ctr wr c (.int .i64 ((n + 1 : Nat) : Int)) ∧ Bx wr w.heap.size (.int .i64 2) (.bool false) (.slice ad 0 cd) (.slice an L cn) (.slice ak L ck) ∧ Hid (∀ j, j < i → okName ns j = true)) (fun vi _ => L - (intOf vi).toNat)
  case atStart => exact ⟨0, by omega, rfl, hS0, hC0, hB0, fun j h => by omega⟩
  case round =>
    clear hS0 hC0 hB0
    obtain ⟨i, hin, rfl, hS, hC, hB, hall⟩ := hrel
    obtain ⟨c0, c1, c2, c3, c4⟩ := hB.cells
    by_cases hltL : i < L
    · have hlt : i < ns.length := by rw [(unhide HL).1]; exact hltL
      obtain ⟨g, o, rfl, hg1, hg2, hcell⟩ := (unhide HR).1.at hn3
      have hbel := hS.below (base := hi) hhi (by omega)
      have hci : wr.cell? ⟨g, o + i, none⟩ = some (.string ns[i]) := by rw [hbel.cell (p := ⟨g, o + i, none⟩) hg2]; exact hcell i _ (by simp [List.getElem?_eq_getElem hlt])
      have hsi := (unhide HSm).s ns[i] (List.getElem_mem hlt)
      have HEn := hide (fun w => entR_any ns[i] w (by omega))
      have HF := hide (fun (h : ¬ okNames ns) => unhide HX h)
      have HW := hide (And.intro hS (And.intro hC hB))
      clear hS hC hB
      cases i with
      | zero =>
        have HO := hide (okName_first hlt)
        have HLT := hide hlt
        simp only [Nat.add_zero] at hci
        clear hcell
        generalize ns[0] = s at *
        clear hlt
        cases hent : entB s
        case false =>
          have h9 := unhide HF (fun h => by have := h 0 (unhide HLT); rw [unhide HO, hent] at this; simp at this)
          obtain ⟨rfl, rfl⟩ := Prod.mk.inj h9
          rw [hent] at HEn
          clear h9 HF HX HY HO HLT HSm HL ih hsi hbel hall
          go_wp2_with fail
          go_quiet ((go_at_call 43; exact Calls.quiet_of_same (unhide HEn _)))
          go_wp2_with fail
          go_ret
          exact ⟨rfl, (unhide HW).1.drewN _, (unhide HW).2.1.drewN _⟩
        case true =>
          rw [hent] at HEn
          clear HF HX HY HSm ih hsi hbel
          go_wp2_with fail
          go_quiet ((go_at_call 43; exact Calls.quiet_of_same (unhide HEn _)))
          go_wp2_with fail
          go_roundw
          case rel =>
            refine ⟨1, by omega, by go_num, (unhide HW).1.drewN _, (unhide HW).2.1.drewN _, (unhide HW).2.2.drewN _, fun j hj => ?_⟩
            obtain rfl : j = 0 := by omega
            rw [unhide HO, hent]
          case measure => simp [intOf]; omega
      | succ i =>
        have hcj : wr.cell? ⟨g, o + i, none⟩ = some (.string (ns.getD i ⟨#[]⟩)) := by
          rw [hbel.cell (p := ⟨g, o + i, none⟩) hg2]
          exact hcell i _ (by simp [List.getElem?_eq_getElem (show i < ns.length by omega), List.getD_eq_getElem?_getD])
        have HO := hide (okName_next hlt)
        have HLT := hide hlt
        clear hcell
        generalize ns.getD i ⟨#[]⟩ = q at *
        generalize ns[i + 1] = s at *
        clear hlt
        cases hent : entB s
        case false =>
          have h9 := unhide HF (fun h => by have := h (i + 1) (unhide HLT); rw [unhide HO, hent] at this; simp at this)
          obtain ⟨rfl, rfl⟩ := Prod.mk.inj h9
          rw [hent] at HEn
          clear h9 HF HX HY HO HLT HSm HL ih hsi hbel hall
          go_wp2_with fail
          go_quiet ((go_at_call 43; exact Calls.quiet_of_same (unhide HEn _)))
          go_wp2_with fail
          go_ret
          exact ⟨rfl, (unhide HW).1.drewN _, (unhide HW).2.1.drewN _⟩
        case true =>
          rw [hent] at HEn
          clear HSm ih hsi hbel
          go_wp2_with fail
          go_quiet ((go_at_call 43; exact Calls.quiet_of_same (unhide HEn _)))
          go_wp2_with fail
          · rename_i hle
            have hno : ¬ okNames ns := fun h => by have := h (i + 1) (unhide HLT); rw [unhide HO, hent] at this; exact less_yes hle (by simpa using this)
            have h9 := unhide HF hno
            obtain ⟨rfl, rfl⟩ := Prod.mk.inj h9
            go_ret
            exact ⟨rfl, (unhide HW).1.drewN _, (unhide HW).2.1.drewN _⟩
          · rename_i hle
            have HYe : Hid (okName ns (i + 1) = true) := by show okName ns (i + 1) = true; rw [unhide HO, hent]; simpa using less_no hle
            clear HF HX HY
            go_roundw
            case rel =>
              refine ⟨i + 1 + 1, by omega, by go_num, (unhide HW).1.drewN _, (unhide HW).2.1.drewN _, (unhide HW).2.2.drewN _, fun j hj => ?_⟩
              by_cases e : j = i + 1
              · subst e; exact unhide HYe
              · exact unhide hall j (by omega)
            case measure => simp [intOf]; omega
    · have HE' : Hid (chks ks (deep + 1) (n + 1) = (E, M)) := unhide HY (fun j hj => unhide hall j (by have := (unhide HL).1; omega))
      clear HY HX hall
      go_wp2_with fail
      clear c0 c1 c2 c3 c4
      have HT := hide (unhide HSm).t
      have HW := hide (And.intro hS (And.intro hC hB))
      clear hS hC hB HSm
      generalize wr = w2 at *
      go_loopw [9] (fun vi wr => ∃ i m : Nat, i ≤ L ∧ vi = .int .i64 (i : Int) ∧ Sole c w wr ∧ Bx wr w.heap.size (.int .i64 2) (.bool false) (.slice ad 0 cd) (.slice an L cn) (.slice ak L ck) ∧ Ctr wr c (.int .i64 (m : Int)) ∧ Hid (m ≤ 65536) ∧ Hid (chks (ks.drop i) (deep + 1) m = (E, M))) (fun vi _ => L - (intOf vi).toNat)
      case atStart => exact ⟨0, n + 1, by omega, rfl, (unhide HW).1, (unhide HW).2.2, (unhide HW).2.1, HNb, HE'⟩
      case round =>
        obtain ⟨i, m, hik, rfl, hS, hB, hC, hm, hq⟩ := hrel
        obtain ⟨c0, c1, c2, c3, c4⟩ := hB.cells
        by_cases hlt : i < L
        · have hltk : i < ks.length := by rw [(unhide HL).2]; exact hlt
          obtain ⟨g, o, rfl, hg1, hg2, hcell⟩ := (unhide HR).2.1.at hn3
          obtain ⟨hl, hK⟩ := (unhide HR).2.2
          have hbel := hS.below (base := hi) hhi (by omega)
          have hcell' : ∀ j u, Ks.flatten[j]? = some u → wr.cell? ⟨g, o + j, none⟩ = some u := fun j u hj => by rw [hbel.cell (p := ⟨g, o + j, none⟩) hg2]; exact hcell j u hj
          obtain ⟨k', x', a1, n1, c1', a2, n2, c2', a3, n3, c3', hLi, z0, z1, z2, z3, z4⟩ := kid_sl (hl.trans (unhide HL).2.symm) hcell' (fun i t c h1 h2 => (hK i t c h1 h2).kept hbel (Nat.le_refl _)) i hltk
          have hzr := hS.size
          have HI := hide (ih ks[i] (List.getElem_mem hltk) lo hi _ wr c (deep + 1) m hLi (unhide HT _ (List.getElem_mem hltk)) hC hhi (unhide hm) (by have := unhide HD0; omega))
          have HQ := hide (chks_step ks i (deep + 1) m hltk)
          have HM := hide (chk_ok ks[i] (deep + 1) m)
          clear hcell hcell' hl hK hLi hC hbel
          generalize ks[i] = t at *
          clear hltk
          go_wp2_with fail
          refine (unhide HI).mono ?_
          rintro e w3 ⟨rfl, hS3, hC3⟩
          have hS4 : Sole c w w3 := hS.trans hS3
          have hB4 := hB.sole hS3 (by omega)
          clear hS3 HI z0 z1 z2 z3 z4
          by_cases he : (chk t (deep + 1) m).1 = 0
          · have hq' : Hid (chks (ks.drop (i + 1)) (deep + 1) (chk t (deep + 1) m).2 = (E, M)) := by
              have h := unhide HQ
              rw [if_pos he, unhide hq] at h
              exact h.symm
            have hm' : Hid ((chk t (deep + 1) m).2 ≤ 65536) := unhide HM he
            rw [he]
            clear HQ HM he hq hm
            generalize (chk t (deep + 1) m).2 = m' at *
            have HS4 := hide (And.intro hS4 (And.intro hB4 hC3))
            clear hC3 hS4 hB4
            go_wp2_with fail
            go_roundw
            case rel => exact ⟨i + 1, m', by omega, by go_num, (unhide HS4).1, (unhide HS4).2.1, (unhide HS4).2.2, hm', hq'⟩
            case measure => simp [intOf]; omega
          · have h := unhide HQ
            rw [if_neg he, unhide hq] at h
            have hne : ((((chk t (deep + 1) m).1 : Nat) : Int) == 0) = false := by rw [beq_eq_false_iff_ne]; omega
            rw [← h] at hC3 hne ⊢
            clear HQ HM he hq hm h
            go_wp2_with fail
            go_ret
            exact ⟨rfl, hS4, hC3⟩
        · obtain rfl : i = L := by omega
          have HF := unhide hq
          rw [← (unhide HL).2, chks_end] at HF
          obtain ⟨rfl, rfl⟩ := Prod.mk.inj HF
          clear HF hq HE'
          go_wp2_with fail
          go_ret
          exact ⟨rfl, hS, hC⟩
end Go.Proofs.YthfjofmfiklegaaDoor
