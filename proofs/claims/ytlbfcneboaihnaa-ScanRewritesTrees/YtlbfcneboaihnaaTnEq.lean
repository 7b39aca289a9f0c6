/- Equal, in the document's own answer: two trees, node by node. -/
import Derived.Test.YtlbfcneboaihnaaTnConv
namespace Go.Proofs.Ytlbfcneboaihnaa.Tn
open Go.RowKit
theorem toList_inj {a b : ByteArray} (h : a.toList = b.toList) : a = b := by
  rw [ByteArray.toList_eq, ByteArray.toList_eq] at h
  exact ByteArray.ext (Array.ext' h)
theorem toList_ne {a b : ByteArray} (h : a ≠ b) : (a.toList == b.toList) = false := by
  rw [beq_eq_false_iff_ne]; exact fun e => h (toList_inj e)
theorem names_all {a b : List ByteArray} (hl : a.length = b.length) (h : ∀ j, j < a.length → a[j]? = b[j]?) : a = b := by
  apply List.ext_getElem? fun j => ?_
  by_cases hj : j < a.length
  · exact h j hj
  · rw [List.getElem?_eq_none (by omega), List.getElem?_eq_none (by omega)]
theorem trees_all {a b : List Tr} (hl : a.length = b.length) (h : ∀ j, j < a.length → a[j]? = b[j]?) : a = b := by
  apply List.ext_getElem? fun j => ?_
  by_cases hj : j < a.length
  · exact h j hj
  · rw [List.getElem?_eq_none (by omega), List.getElem?_eq_none (by omega)]
set_option maxRecDepth 20000 in
set_option maxHeartbeats 2000000 in
theorem equal_any (T : Tr) : ∀ (U : Tr) (lo hi lo' hi' : Nat) (cs cs' : List Value) (w : World), Lies lo hi w T cs → Lies lo' hi' w U cs' → Fit T → Fit U → hi ≤ w.heap.size → hi' ≤ w.heap.size →
    Calls Try.prog 17 #[.agg cs.toArray, .agg cs'.toArray] w fun e w' => Below w.heap.size w w' ∧ ((T = U ∧ e = .returned (.bool true)) ∨ (T ≠ U ∧ e = .returned (.bool false))) := by
  induction T using Tr.ind with
  | h k x d ns ks ih =>
  intro U lo hi lo' hi' cs cs' w hL hL' hW hW' hhi hhi'
  have HSm := hide (small_of hW)
  cases hL with
  | mk _ _ _ _ _ vd vn vk Ks hl hd hn hk hK =>
  obtain ⟨ad, cd, rfl, hcd⟩ := hd.slice
  obtain ⟨an, cn, rfl, hcn⟩ := hn.slice
  obtain ⟨ak, ck, rfl, hck⟩ := hk.slice
  cases hL' with
  | mk k' x' d' ns' ks' vd' vn' vk' Ks' hl' hd' hn' hk' hK' =>
  obtain ⟨ad', cd', rfl, hcd'⟩ := hd'.slice
  obtain ⟨an', cn', rfl, hcn'⟩ := hn'.slice
  obtain ⟨ak', ck', rfl, hck'⟩ := hk'.slice
  have HSm' := hide (small_of hW')
  have hb0 : Below w.heap.size w ((w.alloc (.cells #[.int .i64 k, .bool x, .slice ad d.size cd, .slice an ns.length cn, .slice ak ks.length ck] 34)).alloc (.cells #[.int .i64 k', .bool x', .slice ad' d'.size cd', .slice an' ns'.length cn', .slice ak' ks'.length ck'] 34)) := ((Below.refl _ _).alloc (Nat.le_refl _) _).alloc (by simp) _
  have hcv := run_cv22 (hd.below hb0 hhi)
  have hcv' := run_cv22 (hd'.below hb0 hhi')
  have HR := hide (And.intro hn (And.intro hk (And.intro hl hK)))
  have HR' := hide (And.intro hn' (And.intro hk' (And.intro hl' hK')))
  have HB0 := hide hb0
  clear hd hn hk hl hK hd' hn' hk' hl' hK' hb0 hW hW'
  by_cases h1 : k = k'
  case neg =>
    have HN : Hid (Tr.mk k x d ns ks ≠ Tr.mk k' x' d' ns' ks') := fun h => h1 (by injection h)
    go_enter Try.func17, Try.ntmps17
    go_wp2_with fail
    go_ret
    exact ⟨unhide HB0, .inr ⟨unhide HN, rfl⟩⟩
  subst h1
  by_cases h2 : x = x'
  case neg =>
    have e1 : (x == x') = false := by simpa using h2
    have HN : Hid (Tr.mk k x d ns ks ≠ Tr.mk k x' d' ns' ks') := fun h => h2 (by injection h)
    clear h2
    go_enter Try.func17, Try.ntmps17
    go_wp2_with fail
    all_goals go_ret
    all_goals exact ⟨unhide HB0, .inr ⟨unhide HN, rfl⟩⟩
  subst h2
  by_cases h3 : d = d'
  case neg =>
    have e1 := toList_ne h3
    have HN : Hid (Tr.mk k x d ns ks ≠ Tr.mk k x d' ns' ks') := fun h => h3 (by injection h)
    clear h3
    go_enter Try.func17, Try.ntmps17
    go_wp2_with fail
    go_ret
    exact ⟨unhide HB0, .inr ⟨unhide HN, rfl⟩⟩
  subst h3
  by_cases h4 : ns.length = ns'.length
  case neg =>
    have e1 : ((ns.length : Int) == (ns'.length : Int)) = false := by rw [beq_eq_false_iff_ne]; omega
    have HN : Hid (Tr.mk k x d ns ks ≠ Tr.mk k x d ns' ks') := fun h => h4 (by injection h with _ _ _ h; rw [h])
    clear h4
    go_enter Try.func17, Try.ntmps17
    go_wp2_with fail
    go_ret
    exact ⟨unhide HB0, .inr ⟨unhide HN, rfl⟩⟩
  by_cases h5 : ks.length = ks'.length
  case neg =>
    have e1 : ((ks.length : Int) == (ks'.length : Int)) = false := by rw [beq_eq_false_iff_ne]; omega
    have HN : Hid (Tr.mk k x d ns ks ≠ Tr.mk k x d ns' ks') := fun h => h5 (by injection h with _ _ _ _ h; rw [h])
    have h4' := h4.symm
    obtain ⟨L, hL⟩ : ∃ L, ns.length = L := ⟨_, rfl⟩
    rw [hL] at h4 hcn HR HB0 hcv hcv'
    rw [← h4] at hcn' HR' HB0 hcv hcv'
    rw [hL, ← h4]
    clear h5 h4 h4' hL
    go_enter Try.func17, Try.ntmps17
    go_wp2_with fail
    go_ret
    exact ⟨unhide HB0, .inr ⟨unhide HN, rfl⟩⟩
  obtain ⟨L, hL⟩ : ∃ L, ns.length = L := ⟨_, rfl⟩
  obtain ⟨M, hM⟩ : ∃ M, ks.length = M := ⟨_, rfl⟩
  rw [hL] at h4 hcn HR HB0 hcv hcv'
  rw [hM] at h5 hck HR HB0 hcv hcv'
  rw [← h4] at hcn' HR' HB0 hcv hcv'
  rw [← h5] at hck' HR' HB0 hcv hcv'
  rw [hL, ← h4, hM, ← h5]
  have hLM : L ≤ 8796093022208 ∧ M ≤ 1599289640401 := ⟨by rw [← hL]; exact (unhide HSm).n, by rw [← hM]; exact (unhide HSm).k⟩
  obtain ⟨hL0, hM0⟩ := hLM
  have HL := hide (And.intro hL (And.intro hM (And.intro h4.symm h5.symm)))
  clear hL hM h4 h5
  go_enter Try.func17, Try.ntmps17
  go_wp2_with fail
  have hB1 : Bx ((w.alloc (.cells #[.int .i64 k, .bool x, .slice ad d.size cd, .slice an L cn, .slice ak M ck] 34)).alloc (.cells #[.int .i64 k, .bool x, .slice ad' d.size cd', .slice an' L cn', .slice ak' M ck'] 34)) w.heap.size (.int .i64 k) (.bool x) (.slice ad d.size cd) (.slice an L cn) (.slice ak M ck) := (bx_new w _ _ _ _ _).kept ((Below.refl (w.heap.size + 1) _).alloc (by simp) _) (by omega)
  have hB2 : Bx ((w.alloc (.cells #[.int .i64 k, .bool x, .slice ad d.size cd, .slice an L cn, .slice ak M ck] 34)).alloc (.cells #[.int .i64 k, .bool x, .slice ad' d.size cd', .slice an' L cn', .slice ak' M ck'] 34)) (w.heap.size + 1) (.int .i64 k) (.bool x) (.slice ad' d.size cd') (.slice an' L cn') (.slice ak' M ck') := by
    have := bx_new (w.alloc (.cells #[.int .i64 k, .bool x, .slice ad d.size cd, .slice an L cn, .slice ak M ck] 34)) (.int .i64 k) (.bool x) (.slice ad' d.size cd') (.slice an' L cn') (.slice ak' M ck')
    rwa [World.size_alloc] at this
  have HB := hide (And.intro hB1 hB2)
  clear hB1 hB2 hcv hcv'
  go_loopw [5] (fun vi wr => ∃ i : Nat, i ≤ L ∧ vi = .int .i64 (i : Int) ∧ Below w.heap.size w wr ∧ Bx wr w.heap.size (.int .i64 k) (.bool x) (.slice ad d.size cd) (.slice an L cn) (.slice ak M ck) ∧ Bx wr (w.heap.size + 1) (.int .i64 k) (.bool x) (.slice ad' d.size cd') (.slice an' L cn') (.slice ak' M ck') ∧ Hid (∀ j, j < i → ns[j]? = ns'[j]?)) (fun vi _ => L - (intOf vi).toNat)
  case atStart => exact ⟨0, by omega, rfl, unhide HB0, (unhide HB).1, (unhide HB).2, fun j h => by omega⟩
  case round =>
    clear HB HB0
    obtain ⟨i, hin, rfl, hbel, hB1, hB2, hall⟩ := hrel
    have hl2 := hB2.lt
    by_cases hlt : i < L
    · have hn1 : i < ns.length := by rw [(unhide HL).1]; exact hlt
      have hn2 : i < ns'.length := by rw [(unhide HL).2.2.1]; exact hlt
      obtain ⟨g, o, rfl, hg1, hg2, hcell⟩ := (unhide HR).1.at (by omega)
      obtain ⟨g', o', rfl, hg1', hg2', hcell'⟩ := (unhide HR').1.at (by omega)
      obtain ⟨c0, c1, c2, c3, c4⟩ := hB1.cells
      obtain ⟨e0, e1, e2, e3, e4⟩ := hB2.cells
      have hc1 : wr.cell? ⟨g, o + i, none⟩ = some (.string ns[i]) := by rw [hbel.cell (p := ⟨g, o + i, none⟩) (show g < w.heap.size by omega)]; exact hcell i _ (by simp [List.getElem?_eq_getElem hn1])
      have hc2 : wr.cell? ⟨g', o' + i, none⟩ = some (.string ns'[i]) := by rw [hbel.cell (p := ⟨g', o' + i, none⟩) (show g' < w.heap.size by omega)]; exact hcell' i _ (by simp [List.getElem?_eq_getElem hn2])
      have HW := hide (And.intro hbel (And.intro hB1 hB2))
      clear hcell hcell' hbel hB1 hB2
      by_cases hs : ns[i] = ns'[i]
      · have HN : Hid (∀ j, j < i + 1 → ns[j]? = ns'[j]?) := fun j hj => by
          by_cases e : j = i
          · subst e; rw [List.getElem?_eq_getElem hn1, List.getElem?_eq_getElem hn2, hs]
          · exact unhide hall j (by omega)
        rw [← hs] at hc2
        clear hs hall
        generalize ns[i] = s at *
        clear hn1 hn2
        go_wp2_with fail
        go_quiet (fail)
        go_wp2_with fail
        go_roundw
        case rel => exact ⟨i + 1, by omega, by go_num, below_drewN (unhide HW).1 _, (unhide HW).2.1.drewN _, (unhide HW).2.2.drewN _, HN⟩
        case measure => simp [intOf]; omega
      · have HN : Hid (Tr.mk k x d ns ks ≠ Tr.mk k x d ns' ks') := fun h => by
          injection h with _ _ _ h
          subst h
          exact hs rfl
        have hne := toList_ne hs
        clear hs hall
        generalize ns[i] = s at *
        generalize ns'[i] = s' at *
        clear hn1 hn2
        go_wp2_with fail
        go_quiet (fail)
        go_wp2_with fail
        go_ret
        exact ⟨below_drewN (unhide HW).1 _, .inr ⟨unhide HN, rfl⟩⟩
    · have HNs : Hid (ns = ns') := names_all (by rw [(unhide HL).1, (unhide HL).2.2.1]) (fun j hj => unhide hall j (by rw [(unhide HL).1] at hj; omega))
      obtain ⟨c0, c1, c2, c3, c4⟩ := hB1.cells
      have HW := hide (And.intro hbel (And.intro hB1 hB2))
      clear hall hbel hB1 hB2
      go_wp2_with fail
      clear c0 c1 c2 c3 c4
      generalize wr = w2 at *
      go_loopw [6] (fun vi wr => ∃ i : Nat, i ≤ M ∧ vi = .int .i64 (i : Int) ∧ Below w.heap.size w wr ∧ Bx wr w.heap.size (.int .i64 k) (.bool x) (.slice ad d.size cd) (.slice an L cn) (.slice ak M ck) ∧ Bx wr (w.heap.size + 1) (.int .i64 k) (.bool x) (.slice ad' d.size cd') (.slice an' L cn') (.slice ak' M ck') ∧ Hid (∀ j, j < i → ks[j]? = ks'[j]?)) (fun vi _ => M - (intOf vi).toNat)
      case atStart => exact ⟨0, by omega, rfl, (unhide HW).1, (unhide HW).2.1, (unhide HW).2.2, fun j h => by omega⟩
      case round =>
        clear HW hl2
        obtain ⟨i, hin, rfl, hbel, hB1, hB2, hall⟩ := hrel
        have hl2 := hB2.lt
        by_cases hlt : i < M
        · have hn1 : i < ks.length := by rw [(unhide HL).2.1]; exact hlt
          have hn2 : i < ks'.length := by rw [(unhide HL).2.2.2]; exact hlt
          obtain ⟨g, o, rfl, hg1, hg2, hcell⟩ := (unhide HR).2.1.at (by omega)
          obtain ⟨g', o', rfl, hg1', hg2', hcell'⟩ := (unhide HR').2.1.at (by omega)
          obtain ⟨c0, c1, c2, c3, c4⟩ := hB1.cells
          obtain ⟨e0, e1, e2, e3, e4⟩ := hB2.cells
          obtain ⟨k1, x1, a1, n1, d1, a2, n2, d2, a3, n3, d3, hLi, y0, y1, y2, y3, y4⟩ := kid_sl ((unhide HR).2.2.1.trans (unhide HL).2.1.symm) (fun j u hj => by rw [hbel.cell (p := ⟨g, o + j, none⟩) (show g < w.heap.size by omega)]; exact hcell j u hj) (fun i t c h1 h2 => ((unhide HR).2.2.2 i t c h1 h2).kept hbel hhi) i hn1
          obtain ⟨k1', x1', a1', n1', d1', a2', n2', d2', a3', n3', d3', hLi', y0', y1', y2', y3', y4'⟩ := kid_sl ((unhide HR').2.2.1.trans (unhide HL).2.2.2.symm) (fun j u hj => by rw [hbel.cell (p := ⟨g', o' + j, none⟩) (show g' < w.heap.size by omega)]; exact hcell' j u hj) (fun i t c h1 h2 => ((unhide HR').2.2.2 i t c h1 h2).kept hbel hhi') i hn2
          have hzr := hbel.size
          have HI : Hid (∀ w' : World, w'.heap = wr.heap → Calls Try.prog 17 #[.agg #[.int .i64 k1, .bool x1, .slice a1 n1 d1, .slice a2 n2 d2, .slice a3 n3 d3], .agg #[.int .i64 k1', .bool x1', .slice a1' n1' d1', .slice a2' n2' d2', .slice a3' n3' d3']] w' fun e w3 => Below wr.heap.size w' w3 ∧ ∃ b, e = .returned (.bool b) ∧ (b = true ↔ ks[i] = ks'[i])) := fun w' hw' => by
            refine (ih ks[i] (List.getElem_mem hn1) ks'[i] lo hi lo' hi' _ _ w' (hLi.same (fun _ _ _ => by rw [hw'])) (hLi'.same (fun _ _ _ => by rw [hw'])) ((unhide HSm).t _ (List.getElem_mem hn1)) ((unhide HSm').t _ (List.getElem_mem hn2)) (by rw [hw']; omega) (by rw [hw']; omega)).mono ?_
            rintro e w3 ⟨h1, ⟨h2, rfl⟩ | ⟨h2, rfl⟩⟩
            · rw [hw'] at h1; exact ⟨h1, true, rfl, fun _ => h2, fun _ => rfl⟩
            · rw [hw'] at h1; exact ⟨h1, false, rfl, fun h => by simp at h, fun h => absurd h h2⟩
          have HW := hide (And.intro hbel (And.intro hB1 hB2))
          have H1 : Hid (ks[i]? = some ks[i]) := List.getElem?_eq_getElem hn1
          have H2 : Hid (ks'[i]? = some ks'[i]) := List.getElem?_eq_getElem hn2
          clear hcell hcell' hbel hB1 hB2 hLi hLi'
          generalize ks[i] = t at *
          generalize ks'[i] = t' at *
          clear hn1 hn2
          go_wp2_with fail
          go_region_with (go_at_call 17; refine (unhide HI wr.drew rfl).mono ?_; rintro e w3 ⟨hb3, b, rfl, hbe⟩)
          all_goals
            have hb4 : Below w.heap.size w w3 := (unhide HW).1.drew.trans (hb3.mono hzr)
            have hB14 := (unhide HW).2.1.of (w' := w3) (hb3.block _ (unhide HW).2.1.lt)
            have hB24 := (unhide HW).2.2.of (w' := w3) (hb3.block _ (unhide HW).2.2.lt)
            have HB3 := hide (And.intro hb4 (And.intro hB14 (And.intro hB24 hbe)))
            clear hb3 hbe hb4 hB14 hB24 c0 c1 c2 c3 c4 e0 e1 e2 e3 e4 y0 y1 y2 y3 y4 y0' y1' y2' y3' y4'
            cases b
            · go_wp2_with fail
              go_ret
              refine ⟨(unhide HB3).1, .inr ⟨fun h => ?_, rfl⟩⟩
              injection h with _ _ _ _ h
              subst h
              have h3 := (unhide HB3).2.2.2
              rw [unhide H1] at H2
              have h4 := Option.some.inj (unhide H2)
              simp [h4] at h3
            · go_wp2_with fail
              go_roundw
              case rel =>
                refine ⟨i + 1, by omega, by go_num, (unhide HB3).1, (unhide HB3).2.1, (unhide HB3).2.2.1, fun j hj => ?_⟩
                by_cases e : j = i
                · subst e; rw [unhide H1, unhide H2, (unhide HB3).2.2.2.1 rfl]
                · exact unhide hall j (by omega)
              case measure => simp [intOf]; omega
        · have HKs : ks = ks' := trees_all (by rw [(unhide HL).2.1, (unhide HL).2.2.2]) (fun j hj => unhide hall j (by rw [(unhide HL).2.1] at hj; omega))
          have HE : Hid (Tr.mk k x d ns ks = Tr.mk k x d ns' ks') := by
            show Tr.mk k x d ns ks = Tr.mk k x d ns' ks'
            rw [unhide HNs, HKs]
          obtain ⟨c0, c1, c2, c3, c4⟩ := hB1.cells
          clear HKs
          go_wp2_with fail
          go_ret
          exact ⟨hbel, .inl ⟨unhide HE, rfl⟩⟩
end Go.Proofs.Ytlbfcneboaihnaa.Tn
