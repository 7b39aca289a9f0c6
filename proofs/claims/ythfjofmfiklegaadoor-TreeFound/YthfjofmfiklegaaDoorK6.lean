import Derived.Test.YthfjofmfiklegaaDoorK5
import Derived.Test.YthfjofmfiklegaaDoorK1
import Derived.Lib.SlBytesConst
/- Equal, in the document's own answer: two trees, node by node. -/
namespace Go.Proofs.YthfjofmfiklegaaDoor
open Go.RowKit
theorem toList_inj {a b : ByteArray} (h : a.toList = b.toList) : a = b := by
  rw [ByteArray.toList_eq, ByteArray.toList_eq] at h
  exact ByteArray.ext (Array.ext' h)
theorem toList_ne {a b : ByteArray} (h : a ≠ b) : (a.toList == b.toList) = false := by
  rw [beq_eq_false_iff_ne]; exact fun e => h (toList_inj e)
theorem names_all {a b : List ByteArray} (hl : a.length = b.length) (h : ∀ j, j < a.length → a[j]? = b[j]?) : a = b := by
  apply List.ext_getElem? fun j => ?_
  by_cases hj : j < a.length
  · exact h j hj
  · rw [List.getElem?_eq_none (by omega), List.getElem?_eq_none (by omega)]
theorem trees_all {a b : List Tr} (hl : a.length = b.length) (h : ∀ j, j < a.length → a[j]? = b[j]?) : a = b := by
  apply List.ext_getElem? fun j => ?_
  by_cases hj : j < a.length
  · exact h j hj
  · rw [List.getElem?_eq_none (by omega), List.getElem?_eq_none (by omega)]
set_option maxRecDepth 20000 in
set_option maxHeartbeats 2000000 in
theorem equal_any (T : Tr) : ∀ (U : Tr) (lo hi lo' hi' : Nat) (cs cs' : List Value) (w : World), Lies lo hi w T cs → Lies lo' hi' w U cs' → wt T ≤ 100000 → wt U ≤ 100000 → hi ≤ w.heap.size → hi' ≤ w.heap.size →
    Calls Tryd.prog 13 #[.agg cs.toArray, .agg cs'.toArray] w fun e w' => Below w.heap.size w w' ∧ ((T = U ∧ e = .returned (.bool true)) ∨ (T ≠ U ∧ e = .returned (.bool false))) := by
  induction T using Tr.ind with
  | h k x d ns ks ih =>
  intro U lo hi lo' hi' cs cs' w hL hL' hW hW' hhi hhi'
  have HSm := hide (small_of hW)
  cases hL with
  | mk _ _ _ _ _ vd vn vk Ks hl hd hn hk hK =>
  obtain ⟨ad, cd, rfl, hcd⟩ := hd.slice
  obtain ⟨an, cn, rfl, hcn⟩ := hn.slice
  obtain ⟨ak, ck, rfl, hck⟩ := hk.slice
  cases hL' with
  | mk k' x' d' ns' ks' vd' vn' vk' Ks' hl' hd' hn' hk' hK' =>
  obtain ⟨ad', cd', rfl, hcd'⟩ := hd'.slice
  obtain ⟨an', cn', rfl, hcn'⟩ := hn'.slice
  obtain ⟨ak', ck', rfl, hck'⟩ := hk'.slice
  have HSm' := hide (small_of hW')
  have hb0 : Below w.heap.size w ((w.alloc (.cells #[.int .i64 k, .bool x, .slice ad d.size cd, .slice an ns.length cn, .slice ak ks.length ck] 26)).alloc (.cells #[.int .i64 k', .bool x', .slice ad' d'.size cd', .slice an' ns'.length cn', .slice ak' ks'.length ck'] 26)) := ((Below.refl _ _).alloc (Nat.le_refl _) _).alloc (by simp) _
  have hcv := run_cv22 (hd.below hb0 hhi)
  have hcv' := run_cv22 (hd'.below hb0 hhi')
  have HR := hide (And.intro hn (And.intro hk (And.intro hl hK)))
  have HR' := hide (And.intro hn' (And.intro hk' (And.intro hl' hK')))
  have HB0 := hide hb0
  clear hd hn hk hl hK hd' hn' hk' hl' hK' hb0 hW hW'
  by_cases h1 : k = k'
  case neg =>
    have HN : Hid (Tr.mk k x d ns ks ≠ Tr.mk k' x' d' ns' ks') := fun h => h1 (by injection h)
    go_enter Tryd.func13, Tryd.ntmps13
    go_wp2_with fail
    go_ret
    exact ⟨unhide HB0, .inr ⟨unhide HN, rfl⟩⟩
  subst h1
  by_cases h2 : x = x'
  case neg =>
    have e1 : (x == x') = false := by simpa using h2
    have HN : Hid (Tr.mk k x d ns ks ≠ Tr.mk k x' d' ns' ks') := fun h => h2 (by injection h)
    clear h2
    go_enter Tryd.func13, Tryd.ntmps13
    go_wp2_with fail
    all_goals go_ret
    all_goals exact ⟨unhide HB0, .inr ⟨unhide HN, rfl⟩⟩
  subst h2
  by_cases h3 : d = d'
  case neg =>
    have e1 := toList_ne h3
    have HN : Hid (Tr.mk k x d ns ks ≠ Tr.mk k x d' ns' ks') := fun h => h3 (by injection h)
    clear h3
    go_enter Tryd.func13, Tryd.ntmps13
    go_wp2_with fail
    go_ret
    exact ⟨unhide HB0, .inr ⟨unhide HN, rfl⟩⟩
  subst h3
  by_cases h4 : ns.length = ns'.length
  case neg =>
    have e1 : ((ns.length : Int) == (ns'.length : Int)) = false := by rw [beq_eq_false_iff_ne]; omega
    have HN : Hid (Tr.mk k x d ns ks ≠ Tr.mk k x d ns' ks') := fun h => h4 (by injection h with _ _ _ h; rw [h])
    clear h4
    go_enter Tryd.func13, Tryd.ntmps13
    go_wp2_with fail
    go_ret
    exact ⟨unhide HB0, .inr ⟨unhide HN, rfl⟩⟩
  by_cases h5 : ks.length = ks'.length
  case neg =>
    have e1 : ((ks.length : Int) == (ks'.length : Int)) = false := by rw [beq_eq_false_iff_ne]; omega
    have HN : Hid (Tr.mk k x d ns ks ≠ Tr.mk k x d ns' ks') := fun h => h5 (by injection h with _ _ _ _ h; rw [h])
    have h4' := h4.symm
    obtain ⟨L, hL⟩ : ∃ L, ns.length = L := ⟨_, rfl⟩
    rw [hL] at h4 hcn HR HB0 hcv hcv'
    rw [← h4] at hcn' HR' HB0 hcv hcv'
    rw [hL, ← h4]
    clear h5 h4 h4' hL
    go_enter Tryd.func13, Tryd.ntmps13
    go_wp2_with fail
    go_ret
    exact ⟨unhide HB0, .inr ⟨unhide HN, rfl⟩⟩
  obtain ⟨L, hL⟩ : ∃ L, ns.length = L := ⟨_, rfl⟩
  obtain ⟨M, hM⟩ : ∃ M, ks.length = M := ⟨_, rfl⟩
  rw [hL] at h4 hcn HR HB0 hcv hcv'
  rw [hM] at h5 hck HR HB0 hcv hcv'
  rw [← h4] at hcn' HR' HB0 hcv hcv'
  rw [← h5] at hck' HR' HB0 hcv hcv'
  rw [hL, ← h4, hM, ← h5]
  have hLM : L ≤ 100000 ∧ M ≤ 100000 := ⟨by rw [← hL]; exact (unhide HSm).n, by rw [← hM]; exact (unhide HSm).k⟩
  obtain ⟨hL0, hM0⟩ := hLM
  have HL := hide (And.intro hL (And.intro hM (And.intro h4.symm h5.symm)))
  clear hL hM h4 h5
  go_enter Tryd.func13, Tryd.ntmps13
  go_wp2_with fail
  have hB1 : Bx ((w.alloc (.cells #[.int .i64 k, .bool x, .slice ad d.size cd, .slice an L cn, .slice ak M ck] 26)).alloc (.cells #[.int .i64 k, .bool x, .slice ad' d.size cd', .slice an' L cn', .slice ak' M ck'] 26)) w.heap.size (.int .i64 k) (.bool x) (.slice ad d.size cd) (.slice an L cn) (.slice ak M ck) := (bx_new w _ _ _ _ _).kept ((Below.refl (w.heap.size + 1) _).alloc (by simp) _) (by omega)
  have hB2 : Bx ((w.alloc (.cells #[.int .i64 k, .bool x, .slice ad d.size cd, .slice an L cn, .slice ak M ck] 26)).alloc (.cells #[.int .i64 k, .bool x, .slice ad' d.size cd', .slice an' L cn', .slice ak' M ck'] 26)) (w.heap.size + 1) (.int .i64 k) (.bool x) (.slice ad' d.size cd') (.slice an' L cn') (.slice ak' M ck') := by
    have := bx_new (w.alloc (.cells #[.int .i64 k, .bool x, .slice ad d.size cd, .slice an L cn, .slice ak M ck] 26)) (.int .i64 k) (.bool x) (.slice ad' d.size cd') (.slice an' L cn') (.slice ak' M ck')
    rwa [World.size_alloc] at this
  have HB := hide (And.intro hB1 hB2)
  clear hB1 hB2 hcv hcv'
  go_loopw [5] (fun vi wr => ∃ i : Nat, i ≤ L ∧ vi = .int .i64 (i : Int) ∧ Below w.heap.size w wr ∧ Bx wr w.heap.size (.int .i64 k) (.bool x) (.slice ad d.size cd) (.slice an L cn) (.slice ak M ck) ∧ Bx wr (w.heap.size + 1) (.int .i64 k) (.bool x) (.slice ad' d.size cd') (.slice an' L cn') (.slice ak' M ck') ∧ Hid (∀ j, j < i → ns[j]? = ns'[j]?)) (fun vi _ => L - (intOf vi).toNat)
  case atStart => exact ⟨0, by omega, rfl, unhide HB0, (unhide HB).1, (unhide HB).2, fun j h => by omega⟩
  case round =>
    clear HB HB0
    obtain ⟨i, hin, rfl, hbel, hB1, hB2, hall⟩ := hrel
    have hl2 := hB2.lt
    by_cases hlt : i < L
    · have hn1 : i < ns.length := by rw [(unhide HL).1]; exact hlt
      have hn2 : i < ns'.length := by rw [(unhide HL).2.2.1]; exact hlt
      obtain ⟨g, o, rfl, hg1, hg2, hcell⟩ := (unhide HR).1.at (by omega)
      obtain ⟨g', o', rfl, hg1', hg2', hcell'⟩ := (unhide HR').1.at (by omega)
      obtain ⟨c0, c1, c2, c3, c4⟩ := hB1.cells
      obtain ⟨e0, e1, e2, e3, e4⟩ := hB2.cells
      have hc1 : wr.cell? ⟨g, o + i, none⟩ = some (.string ns[i]) := by rw [hbel.cell (p := ⟨g, o + i, none⟩) (show g < w.heap.size by omega)]; exact hcell i _ (by simp [List.getElem?_eq_getElem hn1])
      have hc2 : wr.cell? ⟨g', o' + i, none⟩ = some (.string ns'[i]) := by rw [hbel.cell (p := ⟨g', o' + i, none⟩) (show g' < w.heap.size by omega)]; exact hcell' i _ (by simp [List.getElem?_eq_getElem hn2])
      have HW := hide (And.intro hbel (And.intro hB1 hB2))
      clear hcell hcell' hbel hB1 hB2
      by_cases hs : ns[i] = ns'[i]
      · have HN : Hid (∀ j, j < i + 1 → ns[j]? = ns'[j]?) := fun j hj => by
          by_cases e : j = i
          · subst e; rw [List.getElem?_eq_getElem hn1, List.getElem?_eq_getElem hn2, hs]
          · exact unhide hall j (by omega)
        rw [← hs] at hc2
        clear hs hall
        generalize ns[i] = s at *
        clear hn1 hn2
        go_wp2_with fail
        go_quiet (fail)
        go_wp2_with fail
        go_roundw
        case rel => exact ⟨i + 1, by omega, by go_num, below_drewN (unhide HW).1 _, (unhide HW).2.1.drewN _, (unhide HW).2.2.drewN _, HN⟩
        case measure => simp [intOf]; omega
      · have HN : Hid (Tr.mk k x d ns ks ≠ Tr.mk k x d ns' ks') := fun h => by
          injection h with _ _ _ h
          subst h
          exact hs rfl
        have hne := toList_ne hs
        clear hs hall
        generalize ns[i] = s at *
        generalize ns'[i] = s' at *
        clear hn1 hn2
        go_wp2_with fail
        go_quiet (fail)
        go_wp2_with fail
        go_ret
        exact ⟨below_drewN (unhide HW).1 _, .inr ⟨unhide HN, rfl⟩⟩
    · have HNs : Hid (ns = ns') := names_all (by rw [(unhide HL).1, (unhide HL).2.2.1]) (fun j hj => unhide hall j (by rw [(unhide HL).1] at hj; omega))
      obtain ⟨c0, c1, c2, c3, c4⟩ := hB1.cells
      have HW := hide (And.intro hbel (And.intro hB1 hB2))
      clear hall hbel hB1 hB2
      go_wp2_with fail
      clear c0 c1 c2 c3 c4
      generalize wr = w2 at *
      go_loopw [6] (fun vi wr => ∃ i : Nat, i ≤ M ∧ vi = .int .i64 (i : Int) ∧ Below w.heap.size w wr ∧ Bx wr w.heap.size (.int .i64 k) (.bool x) (.slice ad d.size cd) (.slice an L cn) (.slice ak M ck) ∧ Bx wr (w.heap.size + 1) (.int .i64 k) (.bool x) (.slice ad' d.size cd') (.slice an' L cn') (.slice ak' M ck') ∧ Hid (∀ j, j < i → ks[j]? = ks'[j]?)) (fun vi _ => M - (intOf vi).toNat)
      case atStart => exact ⟨0, by omega, rfl, (unhide HW).1, (unhide HW).2.1, (unhide HW).2.2, fun j h => by omega⟩
      case round =>
        clear HW hl2
        obtain ⟨i, hin, rfl, hbel, hB1, hB2, hall⟩ := hrel
        have hl2 := hB2.lt
        by_cases hlt : i < M
        · have hn1 : i < ks.length := by rw [(unhide HL).2.1]; exact hlt
          have hn2 : i < ks'.length := by rw [(unhide HL).2.2.2]; exact hlt
          obtain ⟨g, o, rfl, hg1, hg2, hcell⟩ := (unhide HR).2.1.at (by omega)
          obtain ⟨g', o', rfl, hg1', hg2', hcell'⟩ := (unhide HR').2.1.at (by omega)
          obtain ⟨c0, c1, c2, c3, c4⟩ := hB1.cells
          obtain ⟨e0, e1, e2, e3, e4⟩ := hB2.cells
          obtain ⟨k1, x1, a1, n1, d1, a2, n2, d2, a3, n3, d3, hLi, y0, y1, y2, y3, y4⟩ := kid_sl ((unhide HR).2.2.1.trans (unhide HL).2.1.symm) (fun j u hj => by rw [hbel.cell (p := ⟨g, o + j, none⟩) (show g < w.heap.size by omega)]; exact hcell j u hj) (fun i t c h1 h2 => ((unhide HR).2.2.2 i t c h1 h2).kept hbel hhi) i hn1
          obtain ⟨k1', x1', a1', n1', d1', a2', n2', d2', a3', n3', d3', hLi', y0', y1', y2', y3', y4'⟩ := kid_sl ((unhide HR').2.2.1.trans (unhide HL).2.2.2.symm) (fun j u hj => by rw [hbel.cell (p := ⟨g', o' + j, none⟩) (show g' < w.heap.size by omega)]; exact hcell' j u hj) (fun i t c h1 h2 => ((unhide HR').2.2.2 i t c h1 h2).kept hbel hhi') i hn2
          have hzr := hbel.size
          have HI : Hid (∀ w' : World, w'.heap = wr.heap → Calls Tryd.prog 13 #[.agg #[.int .i64 k1, .bool x1, .slice a1 n1 d1, .slice a2 n2 d2, .slice a3 n3 d3], .agg #[.int .i64 k1', .bool x1', .slice a1' n1' d1', .slice a2' n2' d2', .slice a3' n3' d3']] w' fun e w3 => Below wr.heap.size w' w3 ∧ ∃ b, e = .returned (.bool b) ∧ (b = true ↔ ks[i] = ks'[i])) := fun w' hw' => by
            refine (ih ks[i] (List.getElem_mem hn1) ks'[i] lo hi lo' hi' _ _ w' (hLi.same (fun _ _ _ => by rw [hw'])) (hLi'.same (fun _ _ _ => by rw [hw'])) ((unhide HSm).t _ (List.getElem_mem hn1)) ((unhide HSm').t _ (List.getElem_mem hn2)) (by rw [hw']; omega) (by rw [hw']; omega)).mono ?_
            rintro e w3 ⟨h1, ⟨h2, rfl⟩ | ⟨h2, rfl⟩⟩
            · rw [hw'] at h1; exact ⟨h1, true, rfl, fun _ => h2, fun _ => rfl⟩
            · rw [hw'] at h1; exact ⟨h1, false, rfl, fun h => by simp at h, fun h => absurd h h2⟩
          have HW := hide (And.intro hbel (And.intro hB1 hB2))
          have H1 : Hid (ks[i]? = some ks[i]) := List.getElem?_eq_getElem hn1
          have H2 : Hid (ks'[i]? = some ks'[i]) := List.getElem?_eq_getElem hn2
          clear hcell hcell' hbel hB1 hB2 hLi hLi'
          generalize ks[i] = t at *
          generalize ks'[i] = t' at *
          clear hn1 hn2
          go_wp2_with fail
          go_region_with (go_at_call 13; refine (unhide HI wr.drew rfl).mono ?_; rintro e w3 ⟨hb3, b, rfl, hbe⟩)
          all_goals
            have hb4 : Below w.heap.size w w3 := (unhide HW).1.drew.trans (hb3.mono hzr)
            have hB14 := (unhide HW).2.1.of (w' := w3) (hb3.block _ (unhide HW).2.1.lt)
            have hB24 := (unhide HW).2.2.of (w' := w3) (hb3.block _ (unhide HW).2.2.lt)
            have HB3 := hide (And.intro hb4 (And.intro hB14 (And.intro hB24 hbe)))
            clear hb3 hbe hb4 hB14 hB24 c0 c1 c2 c3 c4 e0 e1 e2 e3 e4 y0 y1 y2 y3 y4 y0' y1' y2' y3' y4'
            cases b
            · go_wp2_with fail
              go_ret
              refine ⟨(unhide HB3).1, .inr ⟨fun h => ?_, rfl⟩⟩
              injection h with _ _ _ _ h
              subst h
              have h3 := (unhide HB3).2.2.2
              rw [unhide H1] at H2
              have h4 := Option.some.inj (unhide H2)
              simp [h4] at h3
            · go_wp2_with fail
              go_roundw
              case rel =>
                refine ⟨i + 1, by omega, by go_num, (unhide HB3).1, (unhide HB3).2.1, (unhide HB3).2.2.1, fun j hj => ?_⟩
                by_cases e : j = i
                · subst e; rw [unhide H1, unhide H2, (unhide HB3).2.2.2.1 rfl]
                · exact unhide hall j (by omega)
              case measure => simp [intOf]; omega
        · have HKs : ks = ks' := trees_all (by rw [(unhide HL).2.1, (unhide HL).2.2.2]) (fun j hj => unhide hall j (by rw [(unhide HL).2.1] at hj; omega))
          have HE : Hid (Tr.mk k x d ns ks = Tr.mk k x d ns' ks') := by
            show Tr.mk k x d ns ks = Tr.mk k x d ns' ks'
            rw [unhide HNs, HKs]
          obtain ⟨c0, c1, c2, c3, c4⟩ := hB1.cells
          clear HKs
          go_wp2_with fail
          go_ret
          exact ⟨hbel, .inl ⟨unhide HE, rfl⟩⟩
end Go.Proofs.YthfjofmfiklegaaDoor
/- texts: two lists of texts. -/
namespace Go.Proofs.YthfjofmfiklegaaDoor
open Go.RowKit
theorem bytes_ne {a b : ByteArray} (h : a ≠ b) : (a.toList == b.toList) = false := by
  rw [beq_eq_false_iff_ne]
  intro e
  rw [ByteArray.toList_eq, ByteArray.toList_eq] at e
  exact h (ByteArray.ext (Array.ext' e))
theorem row_str {lo hi : Nat} {w : World} {a : Option Addr} {n c : Nat} {xs : List ByteArray} (h : Row lo hi w (.slice a n c) n (xs.map .string)) (hn : xs.length = n) (i : Nat) (hi' : i < n) : ∃ g o, a = some ⟨g, o, none⟩ ∧ w.cell? ⟨g, o + i, none⟩ = some (.string (xs.getD i ⟨#[]⟩)) := by
  obtain ⟨g, o, rfl, _, _, hcell⟩ := h.at (by omega)
  exact ⟨g, o, rfl, hcell i _ (by rw [List.getElem?_map, List.getElem?_eq_getElem (show i < xs.length by omega), List.getD_eq_getElem?_getD, List.getElem?_eq_getElem (show i < xs.length by omega)]; rfl)⟩
theorem list_eq_of {xs ys : List ByteArray} (hl : xs.length = ys.length) (h : ∀ j, j < xs.length → xs.getD j ⟨#[]⟩ = ys.getD j ⟨#[]⟩) : xs = ys := by
  apply List.ext_getElem hl
  intro i h1 h2
  have := h i h1
  rw [List.getD_eq_getElem?_getD, List.getD_eq_getElem?_getD, List.getElem?_eq_getElem h1, List.getElem?_eq_getElem h2] at this
  exact this
set_option maxRecDepth 20000 in
set_option maxHeartbeats 1000000 in
theorem texts_any (lo hi lo' hi' : Nat) (a b : Option Addr) (n m c d : Nat) (xs ys : List ByteArray) (w : World) (hx : Row lo hi w (.slice a n c) n (xs.map .string)) (hy : Row lo' hi' w (.slice b m d) m (ys.map .string)) (hn : xs.length = n) (hm : ys.length = m) (hmax : n ≤ 1000000) (hmax2 : m ≤ 1000000) :
    Calls Tryd.prog 17 #[.slice a n c, .slice b m d] w fun e w' => (∃ q, w' = w.drewN q) ∧ e = .returned (.bool (decide (xs = ys))) := by
  by_cases hnm : n = m
  case neg =>
    have hD : decide (xs = ys) = false := decide_eq_false (fun e => hnm (by rw [← hn, ← hm, e]))
    have e1 : ((n : Int) == (m : Int)) = false := by rw [beq_eq_false_iff_ne]; omega
    rw [hD]
    clear hx hy hnm hn hm
    go_enter Tryd.func17, Tryd.ntmps17
    go_wp2_with fail
    go_ret
    exact ⟨⟨0, rfl⟩, rfl⟩
  case pos =>
  subst hnm
  have HX : Hid (∀ i, i < n → ∃ g o, a = some ⟨g, o, none⟩ ∧ w.cell? ⟨g, o + i, none⟩ = some (.string (xs.getD i ⟨#[]⟩))) := fun i hi => row_str hx hn i hi
  have HY : Hid (∀ i, i < n → ∃ g o, b = some ⟨g, o, none⟩ ∧ w.cell? ⟨g, o + i, none⟩ = some (.string (ys.getD i ⟨#[]⟩))) := fun i hi => row_str hy hm i hi
  have HN := hide (And.intro hn hm)
  clear hx hy hn hm
  go_enter Tryd.func17, Tryd.ntmps17
  go_wp2_with fail
  go_loopw [5] (fun vi wr => ∃ i : Nat, i ≤ n ∧ vi = .int .i64 (i : Int) ∧ (∃ q, wr = w.drewN q) ∧ Hid (∀ j, j < i → xs.getD j ⟨#[]⟩ = ys.getD j ⟨#[]⟩)) (fun vi _ => n - (intOf vi).toNat)
  case atStart => exact ⟨0, by omega, rfl, ⟨0, rfl⟩, fun j h => by omega⟩
  case round =>
    obtain ⟨i, hin, rfl, ⟨q, rfl⟩, hlo⟩ := hrel
    by_cases hlt : i < n
    · obtain ⟨g, o, rfl, hcx⟩ := unhide HX i hlt
      obtain ⟨g', o', rfl, hcy⟩ := unhide HY i hlt
      by_cases he : xs.getD i ⟨#[]⟩ = ys.getD i ⟨#[]⟩
      · rw [← he] at hcy
        have hlo' : Hid (∀ j, j < i + 1 → xs.getD j ⟨#[]⟩ = ys.getD j ⟨#[]⟩) := fun j hj => by
          rcases Nat.lt_or_ge j i with h | h
          · exact unhide hlo j h
          · obtain rfl : j = i := by omega
            exact he
        clear he hlo
        generalize xs.getD i ⟨#[]⟩ = z at hcx hcy
        go_wp2_with fail
        go_quiet (fail)
        go_wp2_with fail
        go_roundw
        case rel => exact ⟨i + 1, by omega, by go_num, ⟨_, rfl⟩, hlo'⟩
        case measure => simp [intOf]; try omega
      · have hne := bytes_ne he
        have hD : decide (xs = ys) = false := decide_eq_false (fun e => he (by rw [e]))
        have HD := hide hD
        clear he hD hlo
        generalize xs.getD i ⟨#[]⟩ = z at hcx hne
        generalize ys.getD i ⟨#[]⟩ = z' at hcy hne
        go_wp2_with fail
        go_quiet (fail)
        go_wp2_with fail
        go_ret
        exact ⟨⟨_, World.drewN_drewN _ _ _⟩, by rw [unhide HD]; rfl⟩
    · obtain rfl : i = n := by omega
      have hD : decide (xs = ys) = true := decide_eq_true (list_eq_of (by rw [(unhide HN).1, (unhide HN).2]) (fun j hj => unhide hlo j (by rw [(unhide HN).1] at hj; exact hj)))
      have HD := hide hD
      clear hD
      go_wp2_with fail
      go_ret
      exact ⟨⟨_, rfl⟩, by rw [unhide HD]; rfl⟩
end Go.Proofs.YthfjofmfiklegaaDoor
/- known, in the code. -/
namespace Go.Proofs.YthfjofmfiklegaaDoor
open Go.RowKit
theorem zero_lies (lo hi : Nat) (w : World) : Lies lo hi w zeroTr [.int .i64 0, .bool false, .slice none 0 0, .slice none 0 0, .slice none 0 0] := by
  unfold zeroTr
  have h : ∀ n, n = 0 → ∀ xs, Row lo hi w (.slice none 0 0) n xs := fun n hn xs => by subst hn; exact ⟨none, 0, rfl, Nat.le_refl _, fun h => absurd h (Nat.lt_irrefl 0)⟩
  exact .mk 0 false ⟨#[]⟩ [] [] _ _ _ [] rfl (h _ rfl _) (h _ rfl _) (h _ rfl _) (fun i t c h1 _ => by simp at h1)
theorem fileX_lies (w : World) : Lies w.heap.size (w.heap.size + 1) (w.alloc (.cells #[.int .u8 120] 5 (1, 2))) fileX [.int .i64 1, .bool false, .slice (some ⟨w.heap.size, 0, none⟩) 1 1, .slice none 0 0, .slice none 0 0] := by
  unfold fileX
  have h : ∀ n, n = 0 → ∀ xs, Row w.heap.size (w.heap.size + 1) (w.alloc (.cells #[.int .u8 120] 5 (1, 2))) (.slice none 0 0) n xs := fun n hn xs => by subst hn; exact ⟨none, 0, rfl, Nat.le_refl _, fun h => absurd h (Nat.lt_irrefl 0)⟩
  have hc : (w.alloc (.cells #[.int .u8 120] 5 (1, 2))).heap[w.heap.size]? = some (.cells #[.int .u8 120] 5 (1, 2)) := by
    show (w.heap.push _)[w.heap.size]? = _
    rw [Array.getElem?_push, if_pos rfl]
  refine .mk 1 false ⟨#[120]⟩ [] [] _ _ _ [] rfl ⟨_, 1, rfl, Nat.le_refl _, fun _ => ⟨w.heap.size, 0, rfl, Nat.le_refl _, by omega, fun j u hj => ?_⟩⟩ (h _ rfl _) (h _ rfl _) (fun i t c h1 _ => by simp at h1)
  rw [cell_of_row _ _ _ _ _ _ hc, Nat.zero_add]
  rw [← Array.getElem?_toList]
  exact hj
set_option maxRecDepth 20000 in
set_option maxHeartbeats 1000000 in
theorem known_any (w : World) : Calls Tryd.prog 14 #[] w fun e w' => e = .returned (.bool true) ∧ Below w.heap.size w w' := by
  obtain ⟨wA, hwA⟩ : ∃ wA, wA = w.alloc (.cells #[.int .u8 120] 5 (1, 2)) := ⟨_, rfl⟩
  have hbA : Below w.heap.size w wA := by rw [hwA]; exact (Below.refl _ _).alloc (Nat.le_refl _) _
  have hsA : wA.heap.size = w.heap.size + 1 := by rw [hwA]; simp
  have HP := hide (put_any emptyDir fileX ⟨#[97, 47, 98]⟩ 0 0 w.heap.size (w.heap.size + 1) _ _ wA (empty_lies 0 0 wA) (by rw [hwA]; exact fileX_lies w) (Nat.zero_le _) (by omega) (by rw [wt_empty]; omega) (by rw [wt_fileX]; omega) (by show 3 ≤ _; omega))
  rw [put_known] at HP
  have hcv := Lib.run_convert_bytes_const w 22 5 #[.int .u8 120] 1 1 Tryd.underlying22 Tryd.underlying5
  have HwA := hide hwA
  have HA := hide hbA
  clear hwA hbA
  go_enter Tryd.func14, Tryd.ntmps14
  go_wp2_with fail
  clear hcv
  have hwA' := unhide HwA
  rw [← hwA']
  refine (unhide HP).mono ?_
  rintro e w1 ⟨hb1, hans⟩
  obtain ⟨cs', rfl, hO⟩ : ∃ cs : List Value, e = .returned (.tuple #[.agg cs.toArray, .int .i64 0]) ∧ Own w1 wA.heap.size w1.heap.size knownT cs := hans
  obtain ⟨q0, q1, f4, g4, h4, f5, g5, h5, f6, g6, h6, rfl⟩ := hO.lies.form
  have hs1 := hb1.size
  obtain ⟨w2, hw2⟩ : ∃ w2, w2 = w1.alloc (.cells #[.int .i64 q0, .bool q1, .slice f4 g4 h4, .slice f5 g5 h5, .slice f6 g6 h6] 26) := ⟨_, rfl⟩
  have hb2 : Below w1.heap.size w1 w2 := by rw [hw2]; exact (Below.refl _ _).alloc (Nat.le_refl _) _
  have hs2 : w2.heap.size = w1.heap.size + 1 := by rw [hw2]; simp
  have hbx2 : Bx w2 w1.heap.size (.int .i64 q0) (.bool q1) (.slice f4 g4 h4) (.slice f5 g5 h5) (.slice f6 g6 h6) := by rw [hw2]; exact bx_new _ _ _ _ _ _
  have HL2 := hide (hO.lies.kept hb2 (Nat.le_refl _))
  have HB2 := hide ((unhide HA).trans ((hb1.mono (by omega)).trans (hb2.mono (by omega))))
  have HF := hide (files_any knownT wA.heap.size w1.heap.size _ w2 (unhide HL2) (by rw [wt_known]; omega) (by omega))
  rw [files_known] at HF
  have Hw2 := hide hw2
  clear hO hb1 hb2 hw2 HP HwA
  go_wp2_with fail
  rw [← unhide Hw2]
  refine (unhide HF).mono ?_
  rintro e w3 ⟨hb3, a3, c3, rfl, hR3⟩
  have hs3 := hb3.size
  have e1 : ([⟨#[97, 47, 98]⟩] : List ByteArray).length = 1 := rfl
  rw [e1] at hR3 ⊢
  have HR3 := hide hR3
  have HB3 := hide hb3
  clear e1 hR3 hb3 HF Hw2
  go_wp2_with fail
  obtain ⟨w4, hw4⟩ : ∃ w4, w4 = w3.alloc (.cells #[.string ⟨#[97, 47, 98]⟩] 9) := ⟨_, rfl⟩
  have hb4 : Below w3.heap.size w3 w4 := by rw [hw4]; exact (Below.refl _ _).alloc (Nat.le_refl _) _
  have hs4 : w4.heap.size = w3.heap.size + 1 := by rw [hw4]; simp
  have HX := hide (texts_any w2.heap.size w3.heap.size w3.heap.size (w3.heap.size + 1) a3 (some ⟨w3.heap.size, 0, none⟩) 1 1 c3 1 [⟨#[97, 47, 98]⟩] [⟨#[97, 47, 98]⟩] w4 ((unhide HR3).below hb4 (Nat.le_refl _)) (by rw [hw4]; exact one_row w3 [.string ⟨#[97, 47, 98]⟩] 9) rfl rfl (by omega) (by omega))
  rw [← hw4]
  refine (unhide HX).mono ?_
  rintro e w5 ⟨⟨q, rfl⟩, rfl⟩
  have hd : decide (([⟨#[97, 47, 98]⟩] : List ByteArray) = [⟨#[97, 47, 98]⟩]) = true := decide_eq_true rfl
  rw [hd]
  obtain ⟨w6, hw6⟩ : ∃ w6, w6 = w4.drewN q := ⟨_, rfl⟩
  rw [← hw6]
  have hb6 : Below w2.heap.size w2 w6 := by rw [hw6]; exact below_drewN ((unhide HB3).trans (hb4.mono hs3)) q
  have hs6 := hb6.size
  have hbx6 := hbx2.kept hb6 (by omega)
  obtain ⟨y0, y1, y2, y3, y4⟩ := hbx6.cells
  have HC := hide (check_any knownT wA.heap.size w1.heap.size _ w6 ((unhide HL2).kept hb6 (by omega)) (by rw [wt_known]; omega) (by omega))
  rw [chk_known] at HC
  have HB6 := hide ((unhide HB2).trans (hb6.mono (by omega)))
  clear hd hw6 hw4 HX HR3 HB3 hb4 hb6
  go_wp2_with fail
  refine (unhide HC).mono ?_
  rintro e w7 ⟨rfl, hb7⟩
  have hs7 := hb7.size
  have HB7 := hide ((unhide HB6).trans (hb7.mono (by omega)))
  have HC2 := hide (check_any zeroTr 0 0 _ w7 (zero_lies 0 0 w7) (by rw [wt_zero]; omega) (Nat.zero_le _))
  rw [chk_zero] at HC2
  clear hb7 HC y0 y1 y2 y3 y4
  go_wp2_with fail
  refine (unhide HC2).mono ?_
  rintro e w8 ⟨rfl, hb8⟩
  go_wp2_with fail
  go_ret
  exact ⟨rfl, (unhide HB7).trans (hb8.mono (by omega))⟩
end Go.Proofs.YthfjofmfiklegaaDoor
