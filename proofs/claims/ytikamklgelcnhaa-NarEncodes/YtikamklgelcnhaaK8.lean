import Derived.Test.YtikamklgelcnhaaK7
import Derived.Test.YtikamklgelcnhaaK5
/- Equal, in the document's own answer: two trees, node by node. -/
namespace Go.Proofs.Ytikamklgelcnhaa
open Go.RowKit
theorem toList_inj {a b : ByteArray} (h : a.toList = b.toList) : a = b := by
  rw [ByteArray.toList_eq, ByteArray.toList_eq] at h
  exact ByteArray.ext (Array.ext' h)
theorem toList_ne {a b : ByteArray} (h : a ≠ b) : (a.toList == b.toList) = false := by
  rw [beq_eq_false_iff_ne]; exact fun e => h (toList_inj e)
theorem names_all {a b : List ByteArray} (hl : a.length = b.length) (h : ∀ j, j < a.length → a[j]? = b[j]?) : a = b := by
  apply List.ext_getElem? fun j => ?_
  by_cases hj : j < a.length
  · exact h j hj
  · rw [List.getElem?_eq_none (by omega), List.getElem?_eq_none (by omega)]
theorem trees_all {a b : List Tr} (hl : a.length = b.length) (h : ∀ j, j < a.length → a[j]? = b[j]?) : a = b := by
  apply List.ext_getElem? fun j => ?_
  by_cases hj : j < a.length
  · exact h j hj
  · rw [List.getElem?_eq_none (by omega), List.getElem?_eq_none (by omega)]
set_option maxRecDepth 20000 in
set_option maxHeartbeats 2000000 in
theorem equal_any (T : Tr) : ∀ (U : Tr) (lo hi lo' hi' : Nat) (cs cs' : List Value) (w : World), Lies lo hi w T cs → Lies lo' hi' w U cs' → wt T ≤ 100000 → wt U ≤ 100000 → hi ≤ w.heap.size → hi' ≤ w.heap.size →
    Calls Try.prog 16 #[.agg cs.toArray, .agg cs'.toArray] w fun e w' => Below w.heap.size w w' ∧ ((T = U ∧ e = .returned (.bool true)) ∨ (T ≠ U ∧ e = .returned (.bool false))) := by
  induction T using Tr.ind with
  | h k x d ns ks ih =>
  intro U lo hi lo' hi' cs cs' w hL hL' hW hW' hhi hhi'
  have HSm := hide (small_of hW)
  cases hL with
  | mk _ _ _ _ _ vd vn vk Ks hl hd hn hk hK =>
  obtain ⟨ad, cd, rfl, hcd⟩ := hd.slice
  obtain ⟨an, cn, rfl, hcn⟩ := hn.slice
  obtain ⟨ak, ck, rfl, hck⟩ := hk.slice
  cases hL' with
  | mk k' x' d' ns' ks' vd' vn' vk' Ks' hl' hd' hn' hk' hK' =>
  obtain ⟨ad', cd', rfl, hcd'⟩ := hd'.slice
  obtain ⟨an', cn', rfl, hcn'⟩ := hn'.slice
  obtain ⟨ak', ck', rfl, hck'⟩ := hk'.slice
  have HSm' := hide (small_of hW')
  have hb0 : Below w.heap.size w ((w.alloc (.cells #[.int .i64 k, .bool x, .slice ad d.size cd, .slice an ns.length cn, .slice ak ks.length ck] 26)).alloc (.cells #[.int .i64 k', .bool x', .slice ad' d'.size cd', .slice an' ns'.length cn', .slice ak' ks'.length ck'] 26)) := ((Below.refl _ _).alloc (Nat.le_refl _) _).alloc (by simp) _
  have hcv := run_cv22 (hd.below hb0 hhi)
  have hcv' := run_cv22 (hd'.below hb0 hhi')
  have HR := hide (And.intro hn (And.intro hk (And.intro hl hK)))
  have HR' := hide (And.intro hn' (And.intro hk' (And.intro hl' hK')))
  have HB0 := hide hb0
  clear hd hn hk hl hK hd' hn' hk' hl' hK' hb0 hW hW'
  by_cases h1 : k = k'
  case neg =>
    have HN : Hid (Tr.mk k x d ns ks ≠ Tr.mk k' x' d' ns' ks') := fun h => h1 (by injection h)
    go_enter Try.func16, Try.ntmps16
    go_wp2_with fail
    go_ret
    exact ⟨unhide HB0, .inr ⟨unhide HN, rfl⟩⟩
  subst h1
  by_cases h2 : x = x'
  case neg =>
    have e1 : (x == x') = false := by simpa using h2
    have HN : Hid (Tr.mk k x d ns ks ≠ Tr.mk k x' d' ns' ks') := fun h => h2 (by injection h)
    clear h2
    go_enter Try.func16, Try.ntmps16
    go_wp2_with fail
    all_goals go_ret
    all_goals exact ⟨unhide HB0, .inr ⟨unhide HN, rfl⟩⟩
  subst h2
  by_cases h3 : d = d'
  case neg =>
    have e1 := toList_ne h3
    have HN : Hid (Tr.mk k x d ns ks ≠ Tr.mk k x d' ns' ks') := fun h => h3 (by injection h)
    clear h3
    go_enter Try.func16, Try.ntmps16
    go_wp2_with fail
    go_ret
    exact ⟨unhide HB0, .inr ⟨unhide HN, rfl⟩⟩
  subst h3
  by_cases h4 : ns.length = ns'.length
  case neg =>
    have e1 : ((ns.length : Int) == (ns'.length : Int)) = false := by rw [beq_eq_false_iff_ne]; omega
    have HN : Hid (Tr.mk k x d ns ks ≠ Tr.mk k x d ns' ks') := fun h => h4 (by injection h with _ _ _ h; rw [h])
    clear h4
    go_enter Try.func16, Try.ntmps16
    go_wp2_with fail
    go_ret
    exact ⟨unhide HB0, .inr ⟨unhide HN, rfl⟩⟩
  by_cases h5 : ks.length = ks'.length
  case neg =>
    have e1 : ((ks.length : Int) == (ks'.length : Int)) = false := by rw [beq_eq_false_iff_ne]; omega
    have HN : Hid (Tr.mk k x d ns ks ≠ Tr.mk k x d ns' ks') := fun h => h5 (by injection h with _ _ _ _ h; rw [h])
    have h4' := h4.symm
    obtain ⟨L, hL⟩ : ∃ L, ns.length = L := ⟨_, rfl⟩
    rw [hL] at h4 hcn HR HB0 hcv hcv'
    rw [← h4] at hcn' HR' HB0 hcv hcv'
    rw [hL, ← h4]
    clear h5 h4 h4' hL
    go_enter Try.func16, Try.ntmps16
    go_wp2_with fail
    go_ret
    exact ⟨unhide HB0, .inr ⟨unhide HN, rfl⟩⟩
  obtain ⟨L, hL⟩ : ∃ L, ns.length = L := ⟨_, rfl⟩
  obtain ⟨M, hM⟩ : ∃ M, ks.length = M := ⟨_, rfl⟩
  rw [hL] at h4 hcn HR HB0 hcv hcv'
  rw [hM] at h5 hck HR HB0 hcv hcv'
  rw [← h4] at hcn' HR' HB0 hcv hcv'
  rw [← h5] at hck' HR' HB0 hcv hcv'
  rw [hL, ← h4, hM, ← h5]
  have hLM : L ≤ 100000 ∧ M ≤ 100000 := ⟨by rw [← hL]; exact (unhide HSm).n, by rw [← hM]; exact (unhide HSm).k⟩
  obtain ⟨hL0, hM0⟩ := hLM
  have HL := hide (And.intro hL (And.intro hM (And.intro h4.symm h5.symm)))
  clear hL hM h4 h5
  go_enter Try.func16, Try.ntmps16
  go_wp2_with fail
  have hB1 : Bx ((w.alloc (.cells #[.int .i64 k, .bool x, .slice ad d.size cd, .slice an L cn, .slice ak M ck] 26)).alloc (.cells #[.int .i64 k, .bool x, .slice ad' d.size cd', .slice an' L cn', .slice ak' M ck'] 26)) w.heap.size (.int .i64 k) (.bool x) (.slice ad d.size cd) (.slice an L cn) (.slice ak M ck) := (bx_new w _ _ _ _ _).kept ((Below.refl (w.heap.size + 1) _).alloc (by simp) _) (by omega)
  have hB2 : Bx ((w.alloc (.cells #[.int .i64 k, .bool x, .slice ad d.size cd, .slice an L cn, .slice ak M ck] 26)).alloc (.cells #[.int .i64 k, .bool x, .slice ad' d.size cd', .slice an' L cn', .slice ak' M ck'] 26)) (w.heap.size + 1) (.int .i64 k) (.bool x) (.slice ad' d.size cd') (.slice an' L cn') (.slice ak' M ck') := by
    have := bx_new (w.alloc (.cells #[.int .i64 k, .bool x, .slice ad d.size cd, .slice an L cn, .slice ak M ck] 26)) (.int .i64 k) (.bool x) (.slice ad' d.size cd') (.slice an' L cn') (.slice ak' M ck')
    rwa [World.size_alloc] at this
  have HB := hide (And.intro hB1 hB2)
  clear hB1 hB2 hcv hcv'
  go_loopw [5] (fun vi wr => ∃ i : Nat, i ≤ L ∧ vi = .int .i64 (i : Int) ∧ Below w.heap.size w wr ∧ Bx wr w.heap.size (.int .i64 k) (.bool x) (.slice ad d.size cd) (.slice an L cn) (.slice ak M ck) ∧ Bx wr (w.heap.size + 1) (.int .i64 k) (.bool x) (.slice ad' d.size cd') (.slice an' L cn') (.slice ak' M ck') ∧ Hid (∀ j, j < i → ns[j]? = ns'[j]?)) (fun vi _ => L - (intOf vi).toNat)
  case atStart => exact ⟨0, by omega, rfl, unhide HB0, (unhide HB).1, (unhide HB).2, fun j h => by omega⟩
  case round =>
    clear HB HB0
    obtain ⟨i, hin, rfl, hbel, hB1, hB2, hall⟩ := hrel
    have hl2 := hB2.lt
    by_cases hlt : i < L
    · have hn1 : i < ns.length := by rw [(unhide HL).1]; exact hlt
      have hn2 : i < ns'.length := by rw [(unhide HL).2.2.1]; exact hlt
      obtain ⟨g, o, rfl, hg1, hg2, hcell⟩ := (unhide HR).1.at (by omega)
      obtain ⟨g', o', rfl, hg1', hg2', hcell'⟩ := (unhide HR').1.at (by omega)
      obtain ⟨c0, c1, c2, c3, c4⟩ := hB1.cells
      obtain ⟨e0, e1, e2, e3, e4⟩ := hB2.cells
      have hc1 : wr.cell? ⟨g, o + i, none⟩ = some (.string ns[i]) := by rw [hbel.cell (p := ⟨g, o + i, none⟩) (show g < w.heap.size by omega)]; exact hcell i _ (by simp [List.getElem?_eq_getElem hn1])
      have hc2 : wr.cell? ⟨g', o' + i, none⟩ = some (.string ns'[i]) := by rw [hbel.cell (p := ⟨g', o' + i, none⟩) (show g' < w.heap.size by omega)]; exact hcell' i _ (by simp [List.getElem?_eq_getElem hn2])
      have HW := hide (And.intro hbel (And.intro hB1 hB2))
      clear hcell hcell' hbel hB1 hB2
      by_cases hs : ns[i] = ns'[i]
      · have HN : Hid (∀ j, j < i + 1 → ns[j]? = ns'[j]?) := fun j hj => by
          by_cases e : j = i
          · subst e; rw [List.getElem?_eq_getElem hn1, List.getElem?_eq_getElem hn2, hs]
          · exact unhide hall j (by omega)
        rw [← hs] at hc2
        clear hs hall
        generalize ns[i] = s at *
        clear hn1 hn2
        go_wp2_with fail
        go_quiet (fail)
        go_wp2_with fail
        go_roundw
        case rel => exact ⟨i + 1, by omega, by go_num, below_drewN (unhide HW).1 _, (unhide HW).2.1.drewN _, (unhide HW).2.2.drewN _, HN⟩
        case measure => simp [intOf]; omega
      · have HN : Hid (Tr.mk k x d ns ks ≠ Tr.mk k x d ns' ks') := fun h => by
          injection h with _ _ _ h
          subst h
          exact hs rfl
        have hne := toList_ne hs
        clear hs hall
        generalize ns[i] = s at *
        generalize ns'[i] = s' at *
        clear hn1 hn2
        go_wp2_with fail
        go_quiet (fail)
        go_wp2_with fail
        go_ret
        exact ⟨below_drewN (unhide HW).1 _, .inr ⟨unhide HN, rfl⟩⟩
    · have HNs : Hid (ns = ns') := names_all (by rw [(unhide HL).1, (unhide HL).2.2.1]) (fun j hj => unhide hall j (by rw [(unhide HL).1] at hj; omega))
      obtain ⟨c0, c1, c2, c3, c4⟩ := hB1.cells
      have HW := hide (And.intro hbel (And.intro hB1 hB2))
      clear hall hbel hB1 hB2
      go_wp2_with fail
      clear c0 c1 c2 c3 c4
      generalize wr = w2 at *
      go_loopw [6] (fun vi wr => ∃ i : Nat, i ≤ M ∧ vi = .int .i64 (i : Int) ∧ Below w.heap.size w wr ∧ Bx wr w.heap.size (.int .i64 k) (.bool x) (.slice ad d.size cd) (.slice an L cn) (.slice ak M ck) ∧ Bx wr (w.heap.size + 1) (.int .i64 k) (.bool x) (.slice ad' d.size cd') (.slice an' L cn') (.slice ak' M ck') ∧ Hid (∀ j, j < i → ks[j]? = ks'[j]?)) (fun vi _ => M - (intOf vi).toNat)
      case atStart => exact ⟨0, by omega, rfl, (unhide HW).1, (unhide HW).2.1, (unhide HW).2.2, fun j h => by omega⟩
      case round =>
        clear HW hl2
        obtain ⟨i, hin, rfl, hbel, hB1, hB2, hall⟩ := hrel
        have hl2 := hB2.lt
        by_cases hlt : i < M
        · have hn1 : i < ks.length := by rw [(unhide HL).2.1]; exact hlt
          have hn2 : i < ks'.length := by rw [(unhide HL).2.2.2]; exact hlt
          obtain ⟨g, o, rfl, hg1, hg2, hcell⟩ := (unhide HR).2.1.at (by omega)
          obtain ⟨g', o', rfl, hg1', hg2', hcell'⟩ := (unhide HR').2.1.at (by omega)
          obtain ⟨c0, c1, c2, c3, c4⟩ := hB1.cells
          obtain ⟨e0, e1, e2, e3, e4⟩ := hB2.cells
          obtain ⟨k1, x1, a1, n1, d1, a2, n2, d2, a3, n3, d3, hLi, y0, y1, y2, y3, y4⟩ := kid_sl ((unhide HR).2.2.1.trans (unhide HL).2.1.symm) (fun j u hj => by rw [hbel.cell (p := ⟨g, o + j, none⟩) (show g < w.heap.size by omega)]; exact hcell j u hj) (fun i t c h1 h2 => ((unhide HR).2.2.2 i t c h1 h2).kept hbel hhi) i hn1
          obtain ⟨k1', x1', a1', n1', d1', a2', n2', d2', a3', n3', d3', hLi', y0', y1', y2', y3', y4'⟩ := kid_sl ((unhide HR').2.2.1.trans (unhide HL).2.2.2.symm) (fun j u hj => by rw [hbel.cell (p := ⟨g', o' + j, none⟩) (show g' < w.heap.size by omega)]; exact hcell' j u hj) (fun i t c h1 h2 => ((unhide HR').2.2.2 i t c h1 h2).kept hbel hhi') i hn2
          have hzr := hbel.size
          have HI : Hid (∀ w' : World, w'.heap = wr.heap → Calls Try.prog 16 #[.agg #[.int .i64 k1, .bool x1, .slice a1 n1 d1, .slice a2 n2 d2, .slice a3 n3 d3], .agg #[.int .i64 k1', .bool x1', .slice a1' n1' d1', .slice a2' n2' d2', .slice a3' n3' d3']] w' fun e w3 => Below wr.heap.size w' w3 ∧ ∃ b, e = .returned (.bool b) ∧ (b = true ↔ ks[i] = ks'[i])) := fun w' hw' => by
            refine (ih ks[i] (List.getElem_mem hn1) ks'[i] lo hi lo' hi' _ _ w' (hLi.same (fun _ _ _ => by rw [hw'])) (hLi'.same (fun _ _ _ => by rw [hw'])) ((unhide HSm).t _ (List.getElem_mem hn1)) ((unhide HSm').t _ (List.getElem_mem hn2)) (by rw [hw']; omega) (by rw [hw']; omega)).mono ?_
            rintro e w3 ⟨h1, ⟨h2, rfl⟩ | ⟨h2, rfl⟩⟩
            · rw [hw'] at h1; exact ⟨h1, true, rfl, fun _ => h2, fun _ => rfl⟩
            · rw [hw'] at h1; exact ⟨h1, false, rfl, fun h => by simp at h, fun h => absurd h h2⟩
          have HW := hide (And.intro hbel (And.intro hB1 hB2))
          have H1 : Hid (ks[i]? = some ks[i]) := List.getElem?_eq_getElem hn1
          have H2 : Hid (ks'[i]? = some ks'[i]) := List.getElem?_eq_getElem hn2
          clear hcell hcell' hbel hB1 hB2 hLi hLi'
          generalize ks[i] = t at *
          generalize ks'[i] = t' at *
          clear hn1 hn2
          go_wp2_with fail
          go_region_with (go_at_call 16; refine (unhide HI wr.drew rfl).mono ?_; rintro e w3 ⟨hb3, b, rfl, hbe⟩)
          all_goals
            have hb4 : Below w.heap.size w w3 := (unhide HW).1.drew.trans (hb3.mono hzr)
            have hB14 := (unhide HW).2.1.of (w' := w3) (hb3.block _ (unhide HW).2.1.lt)
            have hB24 := (unhide HW).2.2.of (w' := w3) (hb3.block _ (unhide HW).2.2.lt)
            have HB3 := hide (And.intro hb4 (And.intro hB14 (And.intro hB24 hbe)))
            clear hb3 hbe hb4 hB14 hB24 c0 c1 c2 c3 c4 e0 e1 e2 e3 e4 y0 y1 y2 y3 y4 y0' y1' y2' y3' y4'
            cases b
            · go_wp2_with fail
              go_ret
              refine ⟨(unhide HB3).1, .inr ⟨fun h => ?_, rfl⟩⟩
              injection h with _ _ _ _ h
              subst h
              have h3 := (unhide HB3).2.2.2
              rw [unhide H1] at H2
              have h4 := Option.some.inj (unhide H2)
              simp [h4] at h3
            · go_wp2_with fail
              go_roundw
              case rel =>
                refine ⟨i + 1, by omega, by go_num, (unhide HB3).1, (unhide HB3).2.1, (unhide HB3).2.2.1, fun j hj => ?_⟩
                by_cases e : j = i
                · subst e; rw [unhide H1, unhide H2, (unhide HB3).2.2.2.1 rfl]
                · exact unhide hall j (by omega)
              case measure => simp [intOf]; omega
        · have HKs : ks = ks' := trees_all (by rw [(unhide HL).2.1, (unhide HL).2.2.2]) (fun j hj => unhide hall j (by rw [(unhide HL).2.1] at hj; omega))
          have HE : Hid (Tr.mk k x d ns ks = Tr.mk k x d ns' ks') := by
            show Tr.mk k x d ns ks = Tr.mk k x d ns' ks'
            rw [unhide HNs, HKs]
          obtain ⟨c0, c1, c2, c3, c4⟩ := hB1.cells
          clear HKs
          go_wp2_with fail
          go_ret
          exact ⟨hbel, .inl ⟨unhide HE, rfl⟩⟩
end Go.Proofs.Ytikamklgelcnhaa
/- The reader's want, either and begin. -/
namespace Go.Proofs.Ytikamklgelcnhaa
open Go.RowKit
set_option linter.unusedSimpArgs false
set_option maxRecDepth 20000 in
set_option maxHeartbeats 1000000 in
theorem either_any (lo hi r : Nat) (b : Value) (B : List UInt8) (w : World) (σ : RS) (f s : ByteArray) (h : Rst lo hi r b B w σ) :
    Calls Try.prog 96 #[.pointer (some ⟨r, 0, none⟩), .string f, .string s] w fun x w' => x = .returned (.bool (eitherS B σ f s).2) ∧ Sole r w w' ∧ Rst lo hi r b B w' (eitherS B σ f s).1 := by
  have HT := hide (text_rst lo hi r b B w σ h)
  obtain ⟨E, hE⟩ : ∃ E, E = eitherS B σ f s := ⟨_, rfl⟩
  rw [← hE]
  have HE := hide hE
  clear h hE
  go_enter Try.func96, Try.ntmps96
  go_wp2_with fail
  refine (unhide HT).mono ?_
  rintro x w1 ⟨a, c, rfl, hs, hR, hv⟩
  have hcv := tv_conv hR hv
  have HR := hide (And.intro hs hR)
  clear hs hR hv HT
  have hE := unhide HE
  unfold eitherS wantS at hE
  generalize (txtS B σ).2 = d at *
  generalize (txtS B σ).1 = τ at *
  clear HE
  by_cases h1 : d = f
  · rw [if_pos h1] at hE
    subst hE h1
    go_wp2_with fail
    go_ret
    exact ⟨rfl, unhide HR⟩
  · rw [if_neg h1] at hE
    have hb1 := toList_ne h1
    by_cases h2 : d = s
    · rw [if_pos h2] at hE
      subst hE h2
      go_wp2_with fail
      go_ret
      exact ⟨rfl, unhide HR⟩
    · rw [if_neg h2] at hE
      subst hE
      have hb2 := toList_ne h2
      have HF := hide (fail_rst lo hi r b B w1 τ 3 (by omega) (unhide HR).2)
      go_wp2_with fail
      refine (unhide HF).mono ?_
      rintro x w2 ⟨rfl, hs2, hR2⟩
      have H2 := hide (And.intro ((unhide HR).1.trans hs2) hR2)
      clear hs2 hR2
      go_wp2_with fail
      go_ret
      exact ⟨rfl, unhide H2⟩
theorem wantsS_snoc (B : List UInt8) (σ : RS) {ts : List ByteArray} {i : Nat} (h : i < ts.length) : wantsS B σ (ts.take (i + 1)) = wantS B (wantsS B σ (ts.take i)) (ts.getD i ⟨#[]⟩) := by
  unfold wantsS
  rw [List.take_add_one, List.getElem?_eq_getElem h, List.getD_eq_getElem?_getD, List.getElem?_eq_getElem h, List.foldl_append]
  rfl
set_option maxRecDepth 20000 in
set_option maxHeartbeats 1000000 in
theorem want_any (lo hi r : Nat) (b : Value) (B : List UInt8) (w : World) (σ : RS) (ts : List ByteArray) (lo2 hi2 : Nat) (a : Option Addr) (n c : Nat) (h : Rst lo hi r b B w σ) (hr : Row lo2 hi2 w (.slice a n c) n (ts.map .string)) (hn : ts.length = n) (hhi : hi2 ≤ w.heap.size) (hoff : r < lo2 ∨ hi2 ≤ r) (hn1 : n ≤ 1000) :
    Calls Try.prog 58 #[.pointer (some ⟨r, 0, none⟩), .slice a n c] w fun x w' => x = .returned (.tuple #[]) ∧ Sole r w w' ∧ Rst lo hi r b B w' (wantsS B σ ts) := by
  have HR := hide (And.intro hr hn)
  have HS := hide h
  clear h hr hn
  go_enter Try.func58, Try.ntmps58
  go_wp2_with fail
  go_loopw [8] (fun vi wr => ∃ i : Nat, i ≤ n ∧ vi = .int .i64 (i : Int) ∧ Hid (Sole r w wr ∧ Rst lo hi r b B wr (wantsS B σ (ts.take i)))) (fun vi _ => n - (intOf vi).toNat)
  case atStart => exact ⟨0, by omega, rfl, Sole.refl r w, unhide HS⟩
  case round =>
    obtain ⟨i, hi1, rfl, hZ⟩ := hrel
    by_cases hlt : i < n
    · have hrow : Row lo2 hi2 wr (.slice a n c) n (ts.map .string) := (unhide HR).1.same (fun k h1 h2 => (unhide hZ).1.block k (by omega) (by omega))
      obtain ⟨g, o, rfl, hcx⟩ := row_strX hrow (unhide HR).2 i hlt
      have hw := wantsS_snoc B σ (ts := ts) (i := i) (by rw [(unhide HR).2]; exact hlt)
      have HT := hide (text_rst lo hi r b B wr _ (unhide hZ).2)
      have HW := hide hw
      clear hrow hw
      generalize ts.getD i ⟨#[]⟩ = s at *
      unfold wantS at HW
      go_wp2_with fail
      refine (unhide HT).mono ?_
      rintro x w1 ⟨a1, c1, rfl, hs, hR, hv⟩
      have hcv := tv_conv hR hv
      have HR2 := hide (And.intro hs hR)
      clear hs hR hv HT
      have hW := unhide HW
      generalize (txtS B (wantsS B σ (ts.take i))).2 = d at *
      generalize (txtS B (wantsS B σ (ts.take i))).1 = τ at *
      clear HW
      by_cases h1 : d = s
      · rw [if_pos h1] at hW
        have H3 : Hid (Sole r w w1 ∧ Rst lo hi r b B w1 (wantsS B σ (ts.take (i + 1)))) := by
          refine ⟨(unhide hZ).1.trans (unhide HR2).1, ?_⟩
          rw [hW]; exact (unhide HR2).2
        clear hW
        subst h1
        go_wp2_with fail
        go_roundw
        case rel => exact ⟨i + 1, by omega, by go_num, unhide H3⟩
        case measure => simp [intOf]; try omega
      · rw [if_neg h1] at hW
        have hb1 := toList_ne h1
        have HF := hide (fail_rst lo hi r b B w1 τ 3 (by omega) (unhide HR2).2)
        rw [← hW] at HF
        clear hW
        go_wp2_with fail
        refine (unhide HF).mono ?_
        rintro x w2 ⟨rfl, hs2, hR2⟩
        have H3 : Hid (Sole r w w2 ∧ Rst lo hi r b B w2 (wantsS B σ (ts.take (i + 1)))) := ⟨((unhide hZ).1.trans (unhide HR2).1).trans hs2, hR2⟩
        clear hs2 hR2
        go_wp2_with fail
        go_roundw
        case rel => exact ⟨i + 1, by omega, by go_num, unhide H3⟩
        case measure => simp [intOf]; try omega
    · obtain rfl : n = i := by omega
      go_wp2_with fail
      have hZ' := unhide hZ
      rw [List.take_of_length_le (by rw [(unhide HR).2]; omega)] at hZ'
      exact bodyPost_end (v := .tuple #[]) (by simp [results, Try.results58, go_sem]) rfl ⟨rfl, hZ'⟩
end Go.Proofs.Ytikamklgelcnhaa
/- The reader's begin. -/
namespace Go.Proofs.Ytikamklgelcnhaa
open Go.RowKit
set_option linter.unusedSimpArgs false
set_option maxRecDepth 20000 in
set_option maxHeartbeats 1000000 in
theorem begin_rx (r : Nat) (b : Value) (p m M e : Int) (deep : Nat) (w : World) (hx : Rx w r b p m e) (hM : wrap64 (m + 1) = M) (hd : deep ≤ 1000000) :
    Calls Try.prog 80 #[.pointer (some ⟨r, 0, none⟩), .int .i64 (deep : Int)] w fun x w' => x = .returned (.tuple #[]) ∧ Sole r w w' ∧ Rx w' r b p M (if 65536 < M ∨ 64 < deep then orE e 5 else e) := by
  obtain ⟨h0, h1, h2, h3⟩ := hx.cells
  have hf := hx.fr 2
  have hx2 := hx.set2 M
  have HS : Hid (Sole r w (w.setCell ⟨r, 2, none⟩ (.int .i64 M))) := (Sole.refl r w).setCell 2 _
  have HF := hide (fail_any r b p M e 5 _ hx2)
  have HX := hide hx2
  clear hx hx2
  by_cases hA : 65536 < M
  · rw [if_pos (.inl hA)]
    go_enter Try.func80, Try.ntmps80
    go_wp2_with fail
    refine (unhide HF).mono ?_
    rintro x w1 ⟨rfl, hs, hr⟩
    have H1 := hide (And.intro ((unhide HS).trans hs) hr)
    clear hs hr
    go_wp2_with fail
    exact bodyPost_end (v := .tuple #[]) (by simp [results, Try.results80, go_sem]) rfl ⟨rfl, unhide H1⟩
  · by_cases hB : 64 < deep
    · rw [if_pos (.inr hB)]
      go_enter Try.func80, Try.ntmps80
      go_wp2_with fail
      refine (unhide HF).mono ?_
      rintro x w1 ⟨rfl, hs, hr⟩
      have H1 := hide (And.intro ((unhide HS).trans hs) hr)
      clear hs hr
      go_wp2_with fail
      exact bodyPost_end (v := .tuple #[]) (by simp [results, Try.results80, go_sem]) rfl ⟨rfl, unhide H1⟩
    · rw [if_neg (by omega)]
      go_enter Try.func80, Try.ntmps80
      go_wp2_with fail
      exact bodyPost_end (v := .tuple #[]) (by simp [results, Try.results80, go_sem]) rfl ⟨rfl, unhide HS, unhide HX⟩
theorem begin_any (lo hi r : Nat) (b : Value) (B : List UInt8) (w : World) (σ : RS) (deep : Nat) (h : Rst lo hi r b B w σ) (hd : deep ≤ 1000000) :
    Calls Try.prog 80 #[.pointer (some ⟨r, 0, none⟩), .int .i64 (deep : Int)] w fun x w' => x = .returned (.tuple #[]) ∧ Sole r w w' ∧ Rst lo hi r b B w' (beginS deep σ) := by
  match σ, h with
  | .ok (p, m), ⟨h, hm⟩ =>
    refine (begin_rx r b p m ((m + 1 : Nat) : Int) 0 deep w h.rx (by rw [wrap64]; omega) hd).mono ?_
    rintro x w' ⟨rfl, hs, hr⟩
    refine ⟨rfl, hs, ?_⟩
    unfold beginS
    by_cases hc : 65536 < m + 1 ∨ 64 < deep
    · simp only [if_pos hc]
      rw [if_pos (by omega), orE_zero] at hr
      exact ⟨by omega, p, _, h.step hs hr h.le⟩
    · simp only [if_neg hc]
      rw [if_neg (by omega)] at hr
      exact ⟨h.step hs hr h.le, by omega⟩
  | .error E, ⟨he, p, m, h⟩ =>
    refine (begin_rx r b p m _ E deep w h.rx rfl hd).mono ?_
    rintro x w' ⟨rfl, hs, hr⟩
    rw [orE_ne he, ite_self] at hr
    exact ⟨rfl, hs, he, p, _, h.step hs hr h.le⟩
/-- Texts that are written out. -/
theorem wants_any (lo hi r : Nat) (b : Value) (B : List UInt8) (w : World) (σ : RS) (ts : List ByteArray) (h : Rst lo hi r b B w σ) (hn : ts.length ≤ 1000) :
    Calls Try.prog 58 #[.pointer (some ⟨r, 0, none⟩), .slice (some ⟨w.heap.size, 0, none⟩) ts.length ts.length] (w.alloc (.cells (ts.map Value.string).toArray 9)) fun x w' => x = .returned (.tuple #[]) ∧ Sole r w w' ∧ Rst lo hi r b B w' (wantsS B σ ts) := by
  have hb : Below w.heap.size w (w.alloc (.cells (ts.map Value.string).toArray 9)) := (Below.refl _ _).alloc (Nat.le_refl _) _
  have hlt := h.lt
  refine (want_any lo hi r b B _ σ ts w.heap.size (w.heap.size + 1) _ ts.length ts.length (h.kept hb hlt h.hi) (lit_row w ts) rfl (by simp) (.inl hlt) hn).mono ?_
  rintro x w' ⟨rfl, hs, hr⟩
  exact ⟨rfl, (Sole.of_below hb).trans hs, hr⟩
end Go.Proofs.Ytikamklgelcnhaa
/- A node stored into a box. -/
namespace Go.Proofs.Ytikamklgelcnhaa
open Go.RowKit
def set5 (w : World) (b : Nat) (v0 v1 v2 v3 v4 : Value) : World := ((((w.setCell ⟨b, 0, none⟩ v0).setCell ⟨b, 1, none⟩ v1).setCell ⟨b, 2, none⟩ v2).setCell ⟨b, 3, none⟩ v3).setCell ⟨b, 4, none⟩ v4
theorem set5_eq (w : World) (b : Nat) (v0 v1 v2 v3 v4 : Value) : ((((w.setCell ⟨b, 0, none⟩ v0).setCell ⟨b, 1, none⟩ v1).setCell ⟨b, 2, none⟩ v2).setCell ⟨b, 3, none⟩ v3).setCell ⟨b, 4, none⟩ v4 = set5 w b v0 v1 v2 v3 v4 := rfl
@[simp] theorem set5_size (w : World) (b : Nat) (v0 v1 v2 v3 v4 : Value) : (set5 w b v0 v1 v2 v3 v4).heap.size = w.heap.size := by simp [set5]
theorem set5_other (w : World) (b k : Nat) (v0 v1 v2 v3 v4 : Value) (h : k ≠ b) : (set5 w b v0 v1 v2 v3 v4).heap[k]? = w.heap[k]? := by
  unfold set5
  rw [set_other _ _ _ _ _ h, set_other _ _ _ _ _ h, set_other _ _ _ _ _ h, set_other _ _ _ _ _ h, set_other _ _ _ _ _ h]
theorem below_set5 {B : Nat} {a w : World} (h : Below B a w) {b : Nat} (hb : B ≤ b) (v0 v1 v2 v3 v4 : Value) : Below B a (set5 w b v0 v1 v2 v3 v4) := by
  unfold Ytikamklgelcnhaa.set5
  exact ((((h.setCell hb _).setCell hb _).setCell hb _).setCell hb _).setCell hb _
theorem Bx.set5 {w : World} {b : Nat} {u0 u1 u2 u3 u4 : Value} (h : Bx w b u0 u1 u2 u3 u4) (v0 v1 v2 v3 v4 : Value) : Bx (set5 w b v0 v1 v2 v3 v4) b v0 v1 v2 v3 v4 := by
  unfold Bx at h ⊢
  unfold Ytikamklgelcnhaa.set5
  have hl := (Array.getElem?_eq_some_iff.1 h).1
  simp [World.setCell, Array.getElem?_modify, h]
end Go.Proofs.Ytikamklgelcnhaa
/- The reader's link. -/
namespace Go.Proofs.Ytikamklgelcnhaa
open Go.RowKit
set_option linter.unusedSimpArgs false
def bTarg : ByteArray := ⟨#[116, 97, 114, 103, 101, 116]⟩
def bClose : ByteArray := ⟨#[41]⟩
def linkS (B : List UInt8) (σ : RS) : RS × ByteArray := (wantsS B (txtS B (wantsS B σ [bTarg])).1 [bClose], (txtS B (wantsS B σ [bTarg])).2)
theorem sole_set5 {g : Nat} {a w : World} (h : Sole g a w) {b : Nat} (hb : a.heap.size ≤ b) (v0 v1 v2 v3 v4 : Value) : Sole g a (set5 w b v0 v1 v2 v3 v4) := by
  have k : Below a.heap.size w (set5 w b v0 v1 v2 v3 v4) := below_set5 (Below.refl _ _) hb _ _ _ _ _
  exact ⟨k.os.trans h.os, k.tape.trans h.tape, k.output.trans h.output, Nat.le_trans h.size k.size, fun i hi hg => (k.block i hi).trans (h.block i hi hg)⟩
/-- What a leaf of the reader answers. -/
def LfA (lo hi r : Nat) (b : Value) (B : List UInt8) (w : World) (τ : RS) (k : Int) (x : Bool) (d : ByteArray) (e : Ending) (w' : World) : Prop :=
  ∃ a c, e = .returned (.agg #[.int .i64 k, .bool x, .slice a d.size c, .slice none 0 0, .slice none 0 0]) ∧ Sole r w w' ∧ Rst lo hi r b B w' τ ∧ Tv lo hi b (.slice a d.size c) B d
set_option maxRecDepth 20000 in
set_option maxHeartbeats 1000000 in
theorem link_any (lo hi r : Nat) (b : Value) (B : List UInt8) (w : World) (σ : RS) (h : Rst lo hi r b B w σ) :
    Calls Try.prog 82 #[.pointer (some ⟨r, 0, none⟩)] w (LfA lo hi r b B w (linkS B σ).1 3 false (linkS B σ).2) := by
  obtain ⟨Q, hQ⟩ : ∃ Q, Q = LfA lo hi r b B w (linkS B σ).1 3 false (linkS B σ).2 := ⟨_, rfl⟩
  rw [← hQ]
  have HQ := hide hQ
  obtain ⟨W0, hW0⟩ : ∃ W0, W0 = w.alloc (.cells #[.int .i64 0, .bool false, .slice none 0 0, .slice none 0 0, .slice none 0 0] 26) := ⟨_, rfl⟩
  have hb0 : Below w.heap.size w W0 := by rw [hW0]; exact (Below.refl _ _).alloc (Nat.le_refl _) _
  have hs0 : W0.heap.size = w.heap.size + 1 := by rw [hW0]; simp
  have hx0 : Bx W0 w.heap.size (.int .i64 0) (.bool false) (.slice none 0 0) (.slice none 0 0) (.slice none 0 0) := by rw [hW0]; exact bx_new _ _ _ _ _ _
  have hlt := h.lt
  have hhi := h.hi
  have H1 := hide (wants_any lo hi r b B W0 σ [bTarg] (h.kept hb0 hlt h.hi) (by decide))
  have HX0 := hide (And.intro (Sole.of_below (g := r) hb0) hx0)
  rw [hs0] at H1
  have HS0 := hide hs0
  have HW0 := hide hW0
  clear h hb0 hx0 hQ hs0 hW0
  go_enter Try.func82, Try.ntmps82
  go_wp2_with fail
  rw [← unhide HW0]
  refine (unhide H1).mono ?_
  rintro x w1 ⟨rfl, hs1, hR1⟩
  have H2 := hide (text_rst lo hi r b B w1 _ hR1)
  have HX1 := hide (And.intro ((unhide HX0).1.trans hs1) ((unhide HX0).2.sole hs1 (by omega)))
  have hz1 := hs1.size
  rw [unhide HS0] at hz1
  clear hs1 hR1 H1 HX0
  go_wp2_with fail
  refine (unhide H2).mono ?_
  rintro x w2 ⟨a, c, rfl, hs2, hR2, hv⟩
  generalize hd : (txtS B (wantsS B σ [bTarg])).2 = d at *
  generalize hτ : (txtS B (wantsS B σ [bTarg])).1 = τ at *
  have hz2 := hs2.size
  obtain ⟨W3, hW3⟩ : ∃ W3, W3 = w2.alloc (.cells #[.int .i64 3, .bool false, .slice a d.size c, .slice none 0 0, .slice none 0 0] 26) := ⟨_, rfl⟩
  have hb3 : Below w2.heap.size w2 W3 := by rw [hW3]; exact (Below.refl _ _).alloc (Nat.le_refl _) _
  have hs3 : W3.heap.size = w2.heap.size + 1 := by rw [hW3]; simp
  have hx3 : Bx W3 w2.heap.size (.int .i64 3) (.bool false) (.slice a d.size c) (.slice none 0 0) (.slice none 0 0) := by rw [hW3]; exact bx_new _ _ _ _ _ _
  have H3 := hide (wants_any lo hi r b B W3 τ [bClose] (hR2.kept hb3 (by omega) hR2.hi) (by decide))
  rw [hs3] at H3
  have HX2 := hide (And.intro (((unhide HX1).1.trans hs2).trans (Sole.of_below hb3)) (And.intro (((unhide HX1).2.sole hs2 (by omega)).kept hb3 (by omega)) hx3))
  have HW3 := hide hW3
  have HS3 := hide hs3
  have HV := hide hv
  have HD := hide (And.intro hd hτ)
  clear hs2 hR2 hv H2 HX1 hb3 hx3 hW3 hs3 hd hτ
  go_wp2_with fail
  rw [← unhide HW3]
  refine (unhide H3).mono ?_
  rintro x w4 ⟨rfl, hs4, hR4⟩
  have hz4 := hs4.size
  rw [unhide HS3] at hz4
  have hxa := (unhide HX2).2.1.sole hs4 (by omega)
  have hxb := (unhide HX2).2.2.sole hs4 (by omega)
  obtain ⟨y0, y1, y2, y3, y4⟩ := hxb.cells
  obtain ⟨x0, x1, x2, x3, x4⟩ := hxa.cells
  have g0 := hxa.fr 0
  have g1 := hxa.fr 1
  have g2 := hxa.fr 2
  have g3 := hxa.fr 3
  have g4 := hxa.fr 4
  have HE : Hid (LfA lo hi r b B w (linkS B σ).1 3 false (linkS B σ).2 (.returned (.agg #[.int .i64 3, .bool false, .slice a d.size c, .slice none 0 0, .slice none 0 0])) (set5 w4 w.heap.size (.int .i64 3) (.bool false) (.slice a d.size c) (.slice none 0 0) (.slice none 0 0))) := by
    unfold linkS
    rw [(unhide HD).1, (unhide HD).2]
    have hbz : Below w.heap.size w4 (set5 w4 w.heap.size (.int .i64 3) (.bool false) (.slice a d.size c) (.slice none 0 0) (.slice none 0 0)) := below_set5 (Below.refl _ _) (Nat.le_refl _) _ _ _ _ _
    exact ⟨a, c, rfl, sole_set5 ((unhide HX2).1.trans hs4) (Nat.le_refl _) _ _ _ _ _, hR4.kept hbz hlt hhi, unhide HV⟩
  clear hs4 hR4 HX2 hxa hxb
  go_wp2_with fail
  refine bodyPost_ret (v := .agg #[.int .i64 3, .bool false, .slice a d.size c, .slice none 0 0, .slice none 0 0]) (by simp [results, Try.results82, go_sem, x0, x1, x2, x3, x4]) rfl ?_
  rw [unhide HQ]
  exact unhide HE
end Go.Proofs.Ytikamklgelcnhaa
/- The reader's file. -/
namespace Go.Proofs.Ytikamklgelcnhaa
open Go.RowKit
set_option linter.unusedSimpArgs false
def bExec : ByteArray := ⟨#[101, 120, 101, 99, 117, 116, 97, 98, 108, 101]⟩
def bCont : ByteArray := ⟨#[99, 111, 110, 116, 101, 110, 116, 115]⟩
/-- The state ahead of a file's contents. -/
def fileS1 (B : List UInt8) (σ : RS) : RS := if (eitherS B σ bExec bCont).2 then wantsS B (eitherS B σ bExec bCont).1 [⟨#[]⟩, bCont] else (eitherS B σ bExec bCont).1
def fileS (B : List UInt8) (σ : RS) : RS × Bool × ByteArray := (wantsS B (txtS B (fileS1 B σ)).1 [bClose], (eitherS B σ bExec bCont).2, (txtS B (fileS1 B σ)).2)
theorem Sole.sole_other {g : Nat} {a w : World} (h : Sole g a w) {c : Nat} (hc : a.heap.size ≤ c) (o : Nat) (v : Value) : Sole g a (w.setCell ⟨c, o, none⟩ v) := by
  have k : Below a.heap.size w (w.setCell ⟨c, o, none⟩ v) := (Below.refl _ _).setCell hc _
  exact ⟨k.os.trans h.os, k.tape.trans h.tape, k.output.trans h.output, Nat.le_trans h.size k.size, fun i hi hg => (k.block i hi).trans (h.block i hi hg)⟩
set_option maxRecDepth 20000 in
set_option maxHeartbeats 1000000 in
theorem file_any (lo hi r : Nat) (b : Value) (B : List UInt8) (w : World) (σ : RS) (h : Rst lo hi r b B w σ) :
    Calls Try.prog 81 #[.pointer (some ⟨r, 0, none⟩)] w (LfA lo hi r b B w (fileS B σ).1 1 (fileS B σ).2.1 (fileS B σ).2.2) := by
  obtain ⟨Q, hQ⟩ : ∃ Q, Q = LfA lo hi r b B w (fileS B σ).1 1 (fileS B σ).2.1 (fileS B σ).2.2 := ⟨_, rfl⟩
  rw [← hQ]
  have HQ := hide hQ
  obtain ⟨W0, hW0⟩ : ∃ W0, W0 = w.alloc (.cells #[.int .i64 0, .bool false, .slice none 0 0, .slice none 0 0, .slice none 0 0] 26) := ⟨_, rfl⟩
  have hb0 : Below w.heap.size w W0 := by rw [hW0]; exact (Below.refl _ _).alloc (Nat.le_refl _) _
  have hs0 : W0.heap.size = w.heap.size + 1 := by rw [hW0]; simp
  have hx0 : Bx W0 w.heap.size (.int .i64 0) (.bool false) (.slice none 0 0) (.slice none 0 0) (.slice none 0 0) := by rw [hW0]; exact bx_new _ _ _ _ _ _
  have hlt := h.lt
  have hhi := h.hi
  have H1 := hide (either_any lo hi r b B W0 σ bExec bCont (h.kept hb0 hlt h.hi))
  have HX0 := hide (And.intro (Sole.of_below (g := r) hb0) hx0)
  have HS0 := hide hs0
  have HW0 := hide hW0
  clear h hb0 hx0 hQ hs0 hW0
  go_enter Try.func81, Try.ntmps81
  go_wp2_with fail
  rw [← unhide HW0]
  refine (unhide H1).mono ?_
  rintro x w1 ⟨rfl, hs1, hR1⟩
  have hz1 := hs1.size
  rw [unhide HS0] at hz1
  have HX1 := hide (And.intro ((unhide HX0).1.trans hs1) ((unhide HX0).2.sole hs1 (by omega)))
  have HFS : Hid (fileS B σ = (wantsS B (txtS B (fileS1 B σ)).1 [bClose], (eitherS B σ bExec bCont).2, (txtS B (fileS1 B σ)).2) ∧ fileS1 B σ = if (eitherS B σ bExec bCont).2 then wantsS B (eitherS B σ bExec bCont).1 [⟨#[]⟩, bCont] else (eitherS B σ bExec bCont).1) := ⟨rfl, rfl⟩
  generalize eitherS B σ bExec bCont = E at *
  obtain ⟨τ1, ex⟩ := E
  obtain ⟨W1, hW1⟩ : ∃ W1, W1 = w1.alloc (.cells #[.int .i64 1, .bool ex, .slice none 0 0, .slice none 0 0, .slice none 0 0] 26) := ⟨_, rfl⟩
  have hb1 : Below w1.heap.size w1 W1 := by rw [hW1]; exact (Below.refl _ _).alloc (Nat.le_refl _) _
  have hsz1 : W1.heap.size = w1.heap.size + 1 := by rw [hW1]; simp
  have hx1 : Bx W1 w1.heap.size (.int .i64 1) (.bool ex) (.slice none 0 0) (.slice none 0 0) (.slice none 0 0) := by rw [hW1]; exact bx_new _ _ _ _ _ _
  have hRW : Rst lo hi r b B W1 τ1 := hR1.kept hb1 (by omega) hR1.hi
  have HX2 := hide (And.intro ((unhide HX1).1.trans (Sole.of_below hb1)) (And.intro ((unhide HX1).2.kept hb1 (by omega)) hx1))
  have HW1 := hide hW1
  have HRW := hide hRW
  have HSW := hide hsz1
  clear hs1 hR1 H1 HX0 HX1 hb1 hx1 hRW hW1 hsz1
  cases ex with
  | true =>
    have H2 := hide (wants_any lo hi r b B W1 τ1 [⟨#[]⟩, bCont] (unhide HRW) (by decide))
    rw [unhide HSW] at H2
    go_wp2_with fail
    rw [← unhide HW1]
    refine (unhide H2).mono ?_
    rintro x w2 ⟨rfl, hs2, hR2⟩
    have hF1 : fileS1 B σ = wantsS B τ1 [⟨#[]⟩, bCont] := (unhide HFS).2
    rw [← hF1] at hR2
    have hz2 := hs2.size
    rw [unhide HSW] at hz2
    have HX3 := hide (And.intro ((unhide HX2).1.trans hs2) (And.intro ((unhide HX2).2.1.sole hs2 (by omega)) ((unhide HX2).2.2.sole hs2 (by omega))))
    have H3 := hide (text_rst lo hi r b B w2 _ hR2)
    clear hs2 hR2 H2 HX2 hF1
    go_wp2_with fail
    refine (unhide H3).mono ?_
    rintro x w3 ⟨a, c, rfl, hs3, hR3, hv⟩
    have HFT := HFS
    generalize txtS B (fileS1 B σ) = T at *
    obtain ⟨τ, d⟩ := T
    have hz3 := hs3.size
    have hxa := (unhide HX3).2.1.sole hs3 (by omega)
    have hxb := (unhide HX3).2.2.sole hs3 (by omega)
    have hfr := hxb.fr 2
    obtain ⟨v0, v1, v2, v3, v4⟩ := hxb.cells
    have hb4 : Below w1.heap.size w3 (w3.setCell ⟨w1.heap.size, 2, none⟩ (.slice a d.size c)) := by
      have hq := Nat.le_refl w1.heap.size
      exact (Below.refl w1.heap.size w3).setCell hq _
    obtain ⟨W4, hW4⟩ : ∃ W4, W4 = w3.setCell ⟨w1.heap.size, 2, none⟩ (.slice a d.size c) := ⟨_, rfl⟩
    have hsz4 : W4.heap.size = w3.heap.size := by rw [hW4]; simp
    have hR4 : Rst lo hi r b B W4 τ := by
      rw [hW4]; exact hR3.kept hb4 (by omega) (by omega)
    have hxc : Bx W4 w1.heap.size (.int .i64 1) (.bool true) (.slice a d.size c) (.slice none 0 0) (.slice none 0 0) := by rw [hW4]; exact hxb.set2 _
    have hxd := hxa.kept (w' := W4) (by rw [hW4]; exact hb4) (by omega)
    have hso : Sole r w W4 := by rw [hW4]; exact ((unhide HX3).1.trans hs3).sole_other (by omega) _ _
    have H4 := hide (wants_any lo hi r b B W4 τ [bClose] hR4 (by decide))
    rw [hsz4] at H4
    have HX4 := hide (And.intro hso (And.intro hxd hxc))
    have HW4 := hide hW4
    have HV := hide hv
    have HS4 := hide hsz4
    clear hs3 hR3 hv hxa hxb hb4 hW4 hR4 hxc hxd hso H3 HX3 hsz4
    go_wp2_with fail
    rw [← unhide HW4]
    refine (unhide H4).mono ?_
    rintro x w5 ⟨rfl, hs5, hR5⟩
    have hz5 := hs5.size
    rw [unhide HS4] at hz5
    have hxa := (unhide HX4).2.1.sole hs5 (by omega)
    have hxb := (unhide HX4).2.2.sole hs5 (by omega)
    clear v0 v1 v2 v3 v4 hfr
    obtain ⟨y0, y1, y2, y3, y4⟩ := hxb.cells
    obtain ⟨x0, x1, x2, x3, x4⟩ := hxa.cells
    have g0 := hxa.fr 0
    have g1 := hxa.fr 1
    have g2 := hxa.fr 2
    have g3 := hxa.fr 3
    have g4 := hxa.fr 4
    have HE : Hid (LfA lo hi r b B w (fileS B σ).1 1 (fileS B σ).2.1 (fileS B σ).2.2 (.returned (.agg #[.int .i64 1, .bool true, .slice a d.size c, .slice none 0 0, .slice none 0 0])) (set5 w5 w.heap.size (.int .i64 1) (.bool true) (.slice a d.size c) (.slice none 0 0) (.slice none 0 0))) := by
      rw [(unhide HFT).1]
      have hbz : Below w.heap.size w5 (set5 w5 w.heap.size (.int .i64 1) (.bool true) (.slice a d.size c) (.slice none 0 0) (.slice none 0 0)) := below_set5 (Below.refl _ _) (Nat.le_refl _) _ _ _ _ _
      exact ⟨a, c, rfl, sole_set5 ((unhide HX4).1.trans hs5) (Nat.le_refl _) _ _ _ _ _, hR5.kept hbz hlt hhi, unhide HV⟩
    clear hs5 hR5 HX4 hxa hxb
    go_wp2_with fail
    refine bodyPost_ret (v := .agg #[.int .i64 1, .bool true, .slice a d.size c, .slice none 0 0, .slice none 0 0]) (by simp [results, Try.results81, go_sem, x0, x1, x2, x3, x4]) rfl ?_
    rw [unhide HQ]
    exact unhide HE
  | false =>
    have hF1 : fileS1 B σ = τ1 := (unhide HFS).2
    have HX3 := HX2
    have hR2 := unhide HRW
    rw [← hF1] at hR2
    have H3 := hide (text_rst lo hi r b B W1 _ hR2)
    clear hR2 HX2 hF1
    go_wp2_with fail
    rw [← unhide HW1]
    have hz2 : w1.heap.size + 1 ≤ W1.heap.size := Nat.le_of_eq (unhide HSW).symm
    refine (unhide H3).mono ?_
    rintro x w3 ⟨a, c, rfl, hs3, hR3, hv⟩
    have HFT := HFS
    generalize txtS B (fileS1 B σ) = T at *
    obtain ⟨τ, d⟩ := T
    have hz3 := hs3.size
    have hxa := (unhide HX3).2.1.sole hs3 (by omega)
    have hxb := (unhide HX3).2.2.sole hs3 (by omega)
    have hfr := hxb.fr 2
    obtain ⟨v0, v1, v2, v3, v4⟩ := hxb.cells
    have hb4 : Below w1.heap.size w3 (w3.setCell ⟨w1.heap.size, 2, none⟩ (.slice a d.size c)) := by
      have hq := Nat.le_refl w1.heap.size
      exact (Below.refl w1.heap.size w3).setCell hq _
    obtain ⟨W4, hW4⟩ : ∃ W4, W4 = w3.setCell ⟨w1.heap.size, 2, none⟩ (.slice a d.size c) := ⟨_, rfl⟩
    have hsz4 : W4.heap.size = w3.heap.size := by rw [hW4]; simp
    have hR4 : Rst lo hi r b B W4 τ := by
      rw [hW4]; exact hR3.kept hb4 (by omega) (by omega)
    have hxc : Bx W4 w1.heap.size (.int .i64 1) (.bool false) (.slice a d.size c) (.slice none 0 0) (.slice none 0 0) := by rw [hW4]; exact hxb.set2 _
    have hxd := hxa.kept (w' := W4) (by rw [hW4]; exact hb4) (by omega)
    have hso : Sole r w W4 := by rw [hW4]; exact ((unhide HX3).1.trans hs3).sole_other (by omega) _ _
    have H4 := hide (wants_any lo hi r b B W4 τ [bClose] hR4 (by decide))
    rw [hsz4] at H4
    have HX4 := hide (And.intro hso (And.intro hxd hxc))
    have HW4 := hide hW4
    have HV := hide hv
    have HS4 := hide hsz4
    clear hs3 hR3 hv hxa hxb hb4 hW4 hR4 hxc hxd hso H3 HX3 hsz4
    go_wp2_with fail
    rw [← unhide HW4]
    refine (unhide H4).mono ?_
    rintro x w5 ⟨rfl, hs5, hR5⟩
    have hz5 := hs5.size
    rw [unhide HS4] at hz5
    have hxa := (unhide HX4).2.1.sole hs5 (by omega)
    have hxb := (unhide HX4).2.2.sole hs5 (by omega)
    clear v0 v1 v2 v3 v4 hfr
    obtain ⟨y0, y1, y2, y3, y4⟩ := hxb.cells
    obtain ⟨x0, x1, x2, x3, x4⟩ := hxa.cells
    have g0 := hxa.fr 0
    have g1 := hxa.fr 1
    have g2 := hxa.fr 2
    have g3 := hxa.fr 3
    have g4 := hxa.fr 4
    have HE : Hid (LfA lo hi r b B w (fileS B σ).1 1 (fileS B σ).2.1 (fileS B σ).2.2 (.returned (.agg #[.int .i64 1, .bool false, .slice a d.size c, .slice none 0 0, .slice none 0 0])) (set5 w5 w.heap.size (.int .i64 1) (.bool false) (.slice a d.size c) (.slice none 0 0) (.slice none 0 0))) := by
      rw [(unhide HFT).1]
      have hbz : Below w.heap.size w5 (set5 w5 w.heap.size (.int .i64 1) (.bool false) (.slice a d.size c) (.slice none 0 0) (.slice none 0 0)) := below_set5 (Below.refl _ _) (Nat.le_refl _) _ _ _ _ _
      exact ⟨a, c, rfl, sole_set5 ((unhide HX4).1.trans hs5) (Nat.le_refl _) _ _ _ _ _, hR5.kept hbz hlt hhi, unhide HV⟩
    clear hs5 hR5 HX4 hxa hxb
    go_wp2_with fail
    refine bodyPost_ret (v := .agg #[.int .i64 1, .bool false, .slice a d.size c, .slice none 0 0, .slice none 0 0]) (by simp [results, Try.results81, go_sem, x0, x1, x2, x3, x4]) rfl ?_
    rw [unhide HQ]
    exact unhide HE
end Go.Proofs.Ytikamklgelcnhaa
/- A tree as it is read: its names and kids in memory of its own, its data pieces of what was handed in. -/
namespace Go.Proofs.Ytikamklgelcnhaa
open Go.RowKit
inductive Rdn (D : Value → ByteArray → Prop) (w : World) : Nat → Nat → Tr → List Value → Prop
  | mk (lo hi : Nat) (k : Int) (x : Bool) (d : ByteArray) (ns : List ByteArray) (ks : List Tr) (a : Option Addr) (c : Nat) (vn vk : Value) (Ks : List (List Value)) (L H : Nat → Nat) (hl : Ks.length = ks.length)
      (hd : D (.slice a d.size c) d) (hn : w.ownsRow lo 9 1 vn ns.length (ns.map .string)) (hk : w.ownsRow lo 26 5 vk ks.length Ks.flatten)
      (hin : ∀ g, (vn.ownBlock = some g ∨ vk.ownBlock = some g) → g < hi) (hne : ∀ g, vk.ownBlock = some g → vn.ownBlock ≠ some g)
      (hK : ∀ (i : Nat) (t : Tr) (c : List Value), ks[i]? = some t → Ks[i]? = some c → Rdn D w (L i) (H i) t c)
      (hLH : ∀ i, i < ks.length → lo ≤ L i ∧ H i ≤ hi ∧ ∀ g, (vn.ownBlock = some g ∨ vk.ownBlock = some g) → g < L i ∨ H i ≤ g)
      (hdis : ∀ i j, i < j → j < ks.length → H i ≤ L j) : Rdn D w lo hi (.mk k x d ns ks) [.int .i64 k, .bool x, .slice a d.size c, vn, vk]
theorem Rdn.same {D : Value → ByteArray → Prop} {w w' : World} {lo hi : Nat} {T : Tr} {cs : List Value} (h : Rdn D w lo hi T cs) : (∀ k, lo ≤ k → k < hi → w'.heap[k]? = w.heap[k]?) → Rdn D w' lo hi T cs := by
  induction h with
  | mk lo hi k x d ns ks a c vn vk Ks L H hl hd hn hk hin hne hK hLH hdis ih =>
    intro hs
    refine .mk lo hi k x d ns ks a c vn vk Ks L H hl hd ?_ ?_ hin hne (fun i t c h1 h2 => ih i t c h1 h2 (fun k hk1 hk2 => ?_)) hLH hdis
    · exact owns_same hn (fun g hg => hs g (owns_lt hn g hg).1 (hin g (.inl hg))) (fun _ _ h => h)
    · exact owns_same hk (fun g hg => hs g (owns_lt hk g hg).1 (hin g (.inr hg))) (fun _ _ h => h)
    · have := hLH i (List.getElem?_eq_some_iff.1 h1).1
      exact hs k (by omega) (by omega)
theorem Rdn.mono {D : Value → ByteArray → Prop} {w : World} {lo hi lo' hi' : Nat} {T : Tr} {cs : List Value} (h : Rdn D w lo hi T cs) (h1 : lo' ≤ lo) (h2 : hi ≤ hi') : Rdn D w lo' hi' T cs := by
  cases h with
  | mk _ _ k x d ns ks a c vn vk Ks L H hl hd hn hk hin hne hK hLH hdis =>
    refine .mk lo' hi' k x d ns ks a c vn vk Ks L H hl hd (owns_same hn (fun _ _ => rfl) (fun _ _ h => by omega)) (owns_same hk (fun _ _ => rfl) (fun _ _ h => by omega)) (fun g hg => by have := hin g hg; omega) hne hK (fun i hi => ?_) hdis
    have := hLH i hi
    exact ⟨by omega, by omega, this.2.2⟩
theorem Rdn.form {D : Value → ByteArray → Prop} {w : World} {lo hi : Nat} {T : Tr} {cs : List Value} (h : Rdn D w lo hi T cs) : ∃ k x a1 n1 c1 a2 n2 c2 a3 n3 c3, cs = [.int .i64 k, .bool x, .slice a1 n1 c1, .slice a2 n2 c2, .slice a3 n3 c3] := by
  cases h with
  | mk _ _ k x d ns ks a c vn vk Ks L H hl hd hn hk =>
    obtain ⟨a2, c2, rfl, _⟩ := owns_slice hn
    obtain ⟨a3, c3, rfl, _⟩ := owns_slice hk
    exact ⟨_, _, _, _, _, _, _, _, _, _, _, rfl⟩
theorem Rdn.length {D : Value → ByteArray → Prop} {w : World} {lo hi : Nat} {T : Tr} {cs : List Value} (h : Rdn D w lo hi T cs) : cs.length = 5 := by cases h; rfl
theorem Rdn.one {D : Value → ByteArray → Prop} {w : World} {lo hi : Nat} {T : Tr} {cs : List Value} (h : Rdn D w lo hi T cs) : ∀ u ∈ cs, u.oneCell' = true := by
  obtain ⟨k, x, a1, n1, c1, a2, n2, c2, a3, n3, c3, rfl⟩ := h.form
  intro u hu
  simp at hu
  rcases hu with rfl | rfl | rfl | rfl | rfl <;> rfl
/-- It lies in memory, its data where what was handed in lies. -/
theorem Rdn.lies {D : Value → ByteArray → Prop} {w : World} {lo hi lo0 hi0 M : Nat} {T : Tr} {cs : List Value} (hD : ∀ v d, D v d → Row lo0 hi0 w v d.size (byteVals d)) (h0 : hi0 ≤ M) (h : Rdn D w lo hi T cs) : lo0 ≤ lo → hi ≤ M → Lies lo0 M w T cs := by
  induction h with
  | mk lo hi k x d ns ks a c vn vk Ks L H hl hd hn hk hin hne hK hLH hdis ih =>
    intro h1 h2
    refine .mk k x d ns ks _ vn vk Ks hl ((hD _ _ hd).mono (Nat.le_refl _) h0) ((owns_row hn (fun g hg => ⟨(owns_lt hn g hg).1, hin g (.inl hg)⟩)).mono h1 h2) ((owns_row hk (fun g hg => ⟨(owns_lt hk g hg).1, hin g (.inr hg)⟩)).mono h1 h2) (fun i t c h3 h4 => ?_)
    have h5 := hLH i (List.getElem?_eq_some_iff.1 h3).1
    exact ih i t c h3 h4 (by omega) (by omega)
/-- A tree under way: so many names, so many kids yet. -/
structure Rl (D : Value → ByteArray → Prop) (Z : Nat) (w : World) (vn vk : Value) (ns : List ByteArray) (ks : List Tr) (p q : Nat) : Prop where
  names : w.ownsRow Z 9 1 vn p ((ns.take p).map .string)
  kids : ∃ (Ks : List (List Value)) (L H : Nat → Nat), Ks.length = q ∧ (∀ c ∈ Ks, c.length = 5) ∧ w.ownsRow Z 26 5 vk q Ks.flatten ∧
    (∀ (j : Nat) (t : Tr) (c : List Value), ks[j]? = some t → Ks[j]? = some c → Rdn D w (L j) (H j) t c ∧ Z ≤ L j ∧ H j ≤ w.heap.size ∧ ∀ g, (vn.ownBlock = some g ∨ vk.ownBlock = some g) → g < L j ∨ H j ≤ g) ∧ ∀ i j, i < j → j < q → H i ≤ L j
  ne : ∀ g, vk.ownBlock = some g → vn.ownBlock ≠ some g
theorem Rl.same {D : Value → ByteArray → Prop} {Z : Nat} {w w' : World} {vn vk : Value} {ns : List ByteArray} {ks : List Tr} {p q : Nat} (h : Rl D Z w vn vk ns ks p q) (hs : ∀ k, Z ≤ k → k < w.heap.size → w'.heap[k]? = w.heap[k]?) (hz : w.heap.size ≤ w'.heap.size) : Rl D Z w' vn vk ns ks p q := by
  obtain ⟨hn, ⟨Ks, L, H, hKl, hK5, ho, hK, hdis⟩, hne⟩ := h
  refine ⟨owns_same hn (fun g hg => hs g (owns_lt hn g hg).1 (owns_lt hn g hg).2) (fun _ _ h => h), ⟨Ks, L, H, hKl, hK5, owns_same ho (fun g hg => hs g (owns_lt ho g hg).1 (owns_lt ho g hg).2) (fun _ _ h => h), fun j t c hj hc => ?_, hdis⟩, hne⟩
  obtain ⟨h1, h2, h3, h4⟩ := hK j t c hj hc
  exact ⟨h1.same (fun k hk1 hk2 => hs k (by omega) (by omega)), h2, by omega, h4⟩
/-- More is to come. -/
theorem Rl.ext {D : Value → ByteArray → Prop} {Z : Nat} {w : World} {vn vk : Value} {ns : List ByteArray} {ks : List Tr} (h : Rl D Z w vn vk ns ks ns.length ks.length) (ns' : List ByteArray) (ks' : List Tr) : Rl D Z w vn vk (ns ++ ns') (ks ++ ks') ns.length ks.length := by
  obtain ⟨hn, ⟨Ks, L, H, hKl, hK5, ho, hK, hdis⟩, hne⟩ := h
  refine ⟨?_, ⟨Ks, L, H, hKl, hK5, ho, fun j t c hj hc => hK j t c ?_ hc, hdis⟩, hne⟩
  · rw [List.take_left]; rwa [List.take_length] at hn
  · have := (List.getElem?_eq_some_iff.1 hc).1
    rwa [List.getElem?_append_left (by omega)] at hj
theorem rl_nil (D : Value → ByteArray → Prop) (Z : Nat) (w : World) : Rl D Z w (.slice none 0 0) (.slice none 0 0) [] [] 0 0 :=
  ⟨World.ownsRow_nil _ _ _ _, ⟨[], fun _ => 0, fun _ => 0, rfl, fun c hc => by simp at hc, World.ownsRow_nil _ _ _ _, fun j t c _ hc => by simp at hc, fun i j _ h => by omega⟩, fun g hg => by simp [Value.ownBlock] at hg⟩
/-- One more name. -/
theorem rl_name {D : Value → ByteArray → Prop} {r Z : Nat} {wr w1 : World} {vn vk : Value} {ns : List ByteArray} {ks : List Tr} {p q : Nat} (s : ByteArray) (h : Rl D Z wr vn vk ns ks p q) (hb : Sole r wr w1) (hr : r < Z) (hs : ns[p]? = some s) (hmax : p ≤ 1000000) (hZ : Z ≤ wr.heap.size) :
    ∃ a' c' w2, (∀ ty, (app23 ty #[vn, .slice (some ⟨w1.heap.size, 0, none⟩) 1 1]).run Try.prog (w1.alloc (.cells #[.string s] 9)) = .ok (.slice a' (p + 1) c') w2) ∧ Rl D Z w2 (.slice a' (p + 1) c') vk ns ks (p + 1) q ∧ Below Z w1 w2 ∧ w1.heap.size ≤ w2.heap.size := by
  have h1 := h.same (w' := w1.alloc (.cells #[.string s] 9)) (fun k hzk hk => by rw [Below.heap_alloc _ _ _ (by have := hb.size; omega), hb.block k hk (by omega)]) (by have := hb.size; simp; omega)
  obtain ⟨hn, ⟨Ks, L, H, hKl, hK5, ho, hK, hdis⟩, hne⟩ := h1
  have hsz := hb.size
  obtain ⟨v', w2, happ, ho2, hg, hf⟩ := app23_own _ Z _ _ vn p _ _ 1 1 [.string s] hn (one_row w1 [.string s] 9) rfl (fun u hu => by simp at hu; subst hu; rfl) (by omega) (by simp; omega)
  obtain ⟨a', c', rfl, _⟩ := owns_slice ho2
  have hs1 : (w1.alloc (.cells #[.string s] 9)).heap.size = w1.heap.size + 1 := by simp
  have hs2 := hg.size
  rw [hs1] at hs2 hf
  have hb0 : Below Z w1 (w1.alloc (.cells #[.string s] 9)) := (Below.refl Z w1).alloc (by omega) _
  refine ⟨a', c', w2, happ, ⟨?_, ⟨Ks, L, H, hKl, hK5, owns_same ho (fun g hgk => hg.block g (owns_lt ho g hgk).2 (fun e => hne g hgk e.symm)) (fun _ _ h => h), fun j t c hj hc => ?_, hdis⟩, ?_⟩, hb0.grown hg (by omega) (fun k hk => (owns_lt hn k hk).1), by omega⟩
  · rw [List.take_add_one, hs]
    simpa using ho2
  · obtain ⟨q1, q2, q3, q4⟩ := hK j t c hj hc
    rw [hs1] at q3
    refine ⟨q1.same (fun k hk1 hk2 => hg.block k (by rw [hs1]; omega) (fun e => by have := q4 k (.inl e.symm); omega)), q2, by omega, fun g hgv => ?_⟩
    rcases hgv with hgv | hgv
    · rcases hf with e | e
      · exact q4 g (.inl (by rw [← e]; exact hgv))
      · rw [e] at hgv; simp at hgv; omega
    · exact q4 g (.inr hgv)
  · intro g hgk e
    rcases hf with e2 | e2
    · exact hne g hgk (by rw [← e2]; exact e)
    · rw [e2] at e
      have := (owns_lt ho g hgk).2
      simp at e
      omega
/-- One more kid. -/
theorem rl_kid {D : Value → ByteArray → Prop} {r Z : Nat} {wr w1 : World} {vn vk : Value} {ns : List ByteArray} {ks : List Tr} {p q : Nat} {cs : List Value} {t : Tr} (h : Rl D Z wr vn vk ns ks p q) (hb : Sole r wr w1) (hr : r < Z) (hL : Rdn D w1 wr.heap.size w1.heap.size t cs) (ht : ks[q]? = some t) (hmax : q ≤ 1000000) (hZ : Z ≤ wr.heap.size) :
    ∃ a' c' w2, (∀ ty, (app24 ty #[vk, .slice (some ⟨w1.heap.size, 0, none⟩) 1 1]).run Try.prog (w1.alloc (.cells cs.toArray 26)) = .ok (.slice a' (q + 1) c') w2) ∧ Rl D Z w2 vn (.slice a' (q + 1) c') ns ks p (q + 1) ∧ Below Z w1 w2 ∧ w1.heap.size ≤ w2.heap.size := by
  have hsz := hb.size
  have hs1 : (w1.alloc (.cells cs.toArray 26)).heap.size = w1.heap.size + 1 := by simp
  have hsame : ∀ k, Z ≤ k → k < wr.heap.size → (w1.alloc (.cells cs.toArray 26)).heap[k]? = wr.heap[k]? := fun k hzk hk => by rw [Below.heap_alloc _ _ _ (by omega), hb.block k hk (by omega)]
  obtain ⟨hn0, ⟨Ks, L, H, hKl, hK5, ho0, hK, hdis⟩, hne⟩ := h
  have hn := owns_same (base' := Z) hn0 (fun g hg => hsame g (owns_lt hn0 g hg).1 (owns_lt hn0 g hg).2) (fun _ _ h => h)
  have ho := owns_same (base' := Z) ho0 (fun g hg => hsame g (owns_lt ho0 g hg).1 (owns_lt ho0 g hg).2) (fun _ _ h => h)
  obtain ⟨v', w2, happ, ho2, hg, hf⟩ := app24_own _ Z _ _ vk q _ _ 1 1 cs ho (one_row w1 cs 26) (by rw [hL.length]) hL.one (by omega) (by simp; omega)
  obtain ⟨a', c', rfl, _⟩ := owns_slice ho2
  have hs2 := hg.size
  rw [hs1] at hs2 hf
  have hb0 : Below Z w1 (w1.alloc (.cells cs.toArray 26)) := (Below.refl Z w1).alloc (by omega) _
  refine ⟨a', c', w2, happ, ⟨?_, ⟨Ks ++ [cs], fun j => if j < q then L j else wr.heap.size, fun j => if j < q then H j else w1.heap.size, ?_, ?_, ?_, fun j t' c hj hc => ?_, ?_⟩, ?_⟩, hb0.grown hg (by omega) (fun k hk => (owns_lt ho k hk).1), by omega⟩
  · exact owns_same hn (fun g hgn => hg.block g (by have := (owns_lt hn0 g hgn).2; omega) (fun e => hne g e.symm hgn)) (fun _ _ h => h)
  · rw [List.length_append, hKl]; rfl
  · intro c hc
    rcases List.mem_append.1 hc with h | h
    · exact hK5 c h
    · simp at h; subst h; exact hL.length
  · rw [List.flatten_append]; simpa using ho2
  · by_cases hji : j < q
    · rw [List.getElem?_append_left (by omega)] at hc
      obtain ⟨q1, q2, q3, q4⟩ := hK j t' c hj hc
      simp only [if_pos hji]
      refine ⟨q1.same (fun k hk1 hk2 => ?_), q2, by omega, fun g hgv => ?_⟩
      · rw [hg.block k (by rw [hs1]; omega) (fun e => by have := q4 k (.inr e.symm); omega), hsame k (by omega) (by omega)]
      · rcases hgv with hgv | hgv
        · exact q4 g (.inl hgv)
        · rcases hf with e | e
          · exact q4 g (.inr (by rw [← e]; exact hgv))
          · rw [e] at hgv; simp at hgv; omega
    · obtain rfl : j = q := by
        have := (List.getElem?_eq_some_iff.1 hc).1
        simp at this; omega
      rw [ht] at hj
      cases hj
      rw [List.getElem?_append_right (by omega), hKl] at hc
      simp at hc
      subst hc
      simp only [if_neg (Nat.lt_irrefl j)]
      refine ⟨hL.same (fun k hk1 hk2 => ?_), hZ, by omega, fun g hgv => ?_⟩
      · rw [hg.block k (by rw [hs1]; omega) (fun e => by have := (owns_lt ho0 k e.symm).2; omega), Below.heap_alloc _ _ _ (by omega)]
      · rcases hgv with hgv | hgv
        · have := (owns_lt hn0 g hgv).2; omega
        · rcases hf with e | e
          · have := (owns_lt ho0 g (by rw [← e]; exact hgv)).2; omega
          · rw [e] at hgv; simp at hgv; omega
  · intro i j hij hj
    by_cases hjq : j < q
    · simp only [if_pos hjq, if_pos (show i < q by omega)]; exact hdis i j hij hjq
    · obtain rfl : j = q := by omega
      simp only [if_neg (Nat.lt_irrefl j), if_pos hij]
      have hqk := (List.getElem?_eq_some_iff.1 ht).1
      exact (hK i ks[i] Ks[i] (List.getElem?_eq_getElem (by omega)) (List.getElem?_eq_getElem (by omega))).2.2.1
  · intro g hgk e
    rcases hf with e2 | e2
    · exact hne g (by rw [← e2]; exact hgk) e
    · rw [e2] at hgk
      have := (owns_lt hn0 g e).2
      simp at hgk
      omega
/-- The tree is whole. -/
theorem rl_end {D : Value → ByteArray → Prop} {Z : Nat} {w : World} {k : Int} {x : Bool} {d : ByteArray} {ns : List ByteArray} {ks : List Tr} {a : Option Addr} {c : Nat} {vn vk : Value} (h : Rl D Z w vn vk ns ks ns.length ks.length) (hd : D (.slice a d.size c) d) : Rdn D w Z w.heap.size (.mk k x d ns ks) [.int .i64 k, .bool x, .slice a d.size c, vn, vk] := by
  obtain ⟨hn, ⟨Ks, L, H, hKl, hK5, ho, hK, hdis⟩, hne⟩ := h
  rw [List.take_length] at hn
  refine .mk Z w.heap.size k x d ns ks a c vn vk Ks L H hKl hd hn ho ?_ hne (fun i t c h1 h2 => (hK i t c h1 h2).1) (fun i hi => ?_) hdis
  · rintro g (h | h)
    · exact (owns_lt hn g h).2
    · exact (owns_lt ho g h).2
  · obtain ⟨_, h2, h3, h4⟩ := hK i ks[i] Ks[i] (List.getElem?_eq_getElem hi) (List.getElem?_eq_getElem (by omega))
    exact ⟨h2, h3, h4⟩
end Go.Proofs.Ytikamklgelcnhaa
/- What the reader reads: node and dir as functions of the reader's state. Mathematics alone. -/
namespace Go.Proofs.Ytikamklgelcnhaa
open Go.RowKit
def bOpen : ByteArray := ⟨#[40]⟩
def bType : ByteArray := ⟨#[116, 121, 112, 101]⟩
def bReg : ByteArray := ⟨#[114, 101, 103, 117, 108, 97, 114]⟩
def bSym : ByteArray := ⟨#[115, 121, 109, 108, 105, 110, 107]⟩
def bDir : ByteArray := ⟨#[100, 105, 114, 101, 99, 116, 111, 114, 121]⟩
def bEntry : ByteArray := ⟨#[101, 110, 116, 114, 121]⟩
def bName : ByteArray := ⟨#[110, 97, 109, 101]⟩
def bNode : ByteArray := ⟨#[110, 111, 100, 101]⟩
def bMagic : ByteArray := ⟨#[110, 105, 120, 45, 97, 114, 99, 104, 105, 118, 101, 45, 49]⟩
/-- The state ahead of an entry's kid, and its name. -/
def entS (B : List UInt8) (σ : RS) : RS × ByteArray := (wantsS B (txtS B (wantsS B σ [bOpen, bName])).1 [bNode], (txtS B (wantsS B σ [bOpen, bName])).2)
def dirS (B : List UInt8) (N : RS → RS × Tr) : Nat → RS → List ByteArray → List Tr → RS × List ByteArray × List Tr
  | 0, σ, ns, ks => (σ, ns, ks)
  | k + 1, σ, ns, ks => if (eitherS B σ bEntry bClose).2 then
      dirS B N k (wantsS B (N (entS B (eitherS B σ bEntry bClose).1).1).1 [bClose]) (ns ++ [(entS B (eitherS B σ bEntry bClose).1).2]) (ks ++ [(N (entS B (eitherS B σ bEntry bClose).1).1).2])
    else ((eitherS B σ bEntry bClose).1, ns, ks)
/-- The state behind a node's kind, and the kind. -/
def kindS (B : List UInt8) (deep : Nat) (σ : RS) : RS × ByteArray := txtS B (wantsS B (beginS deep σ) [bOpen, bType])
def nodeS (B : List UInt8) : Nat → Nat → RS → RS × Tr
  | 0, _, σ => (σ, .mk 0 false ⟨#[]⟩ [] [])
  | f + 1, deep, σ =>
    if (kindS B deep σ).2 = bReg then ((fileS B (kindS B deep σ).1).1, .mk 1 (fileS B (kindS B deep σ).1).2.1 (fileS B (kindS B deep σ).1).2.2 [] [])
    else if (kindS B deep σ).2 = bSym then ((linkS B (kindS B deep σ).1).1, .mk 3 false (linkS B (kindS B deep σ).1).2 [] [])
    else if (kindS B deep σ).2 = bDir then
      ((dirS B (nodeS B f (deep + 1)) (B.length + 1) (kindS B deep σ).1 [] []).1, .mk 2 false ⟨#[]⟩ (dirS B (nodeS B f (deep + 1)) (B.length + 1) (kindS B deep σ).1 [] []).2.1 (dirS B (nodeS B f (deep + 1)) (B.length + 1) (kindS B deep σ).1 [] []).2.2)
    else (failS 3 (kindS B deep σ).1, .mk 0 false ⟨#[]⟩ [] [])
def treeS (B : List UInt8) (σ : RS) : RS × Tr := nodeS B 65 1 (wantsS B σ [bMagic])
/-- The first error stays, and what is read stays read. -/
def Le : RS → RS → Prop
  | .error E, τ => τ = .error E
  | .ok _, .error _ => True
  | .ok (p, m), .ok (p', m') => p ≤ p' ∧ m ≤ m'
theorem Le.refl (σ : RS) : Le σ σ := by
  match σ with
  | .error E => exact rfl
  | .ok (p, m) => exact ⟨Nat.le_refl _, Nat.le_refl _⟩
theorem Le.trans {a b c : RS} (h : Le a b) (k : Le b c) : Le a c := by
  match a, b, c, h, k with
  | .error E, _, _, h, k => cases h; exact k
  | .ok _, .error E, _, _, k => cases k; exact trivial
  | .ok _, .ok _, .error _, _, _ => exact trivial
  | .ok (p, m), .ok (p', m'), .ok (p'', m''), h, k => exact ⟨Nat.le_trans h.1 k.1, Nat.le_trans h.2 k.2⟩
theorem failS_le (k : Int) (σ : RS) : Le σ (failS k σ) := by
  match σ with
  | .error E => exact rfl
  | .ok (p, m) => exact trivial
theorem txtS_le (B : List UInt8) (σ : RS) : Le σ (txtS B σ).1 := by
  match σ with
  | .error E => exact rfl
  | .ok (p, m) =>
    cases h : rdT (B.drop p) with
    | error E => simp only [txtS, h]; exact trivial
    | ok n => simp only [txtS, h]; exact ⟨by omega, Nat.le_refl _⟩
theorem wantS_le (B : List UInt8) (σ : RS) (s : ByteArray) : Le σ (wantS B σ s) := by
  unfold wantS
  split
  · exact txtS_le B σ
  · exact (txtS_le B σ).trans (failS_le _ _)
theorem wantsS_le (B : List UInt8) (ts : List ByteArray) : ∀ σ, Le σ (wantsS B σ ts) := by
  induction ts with
  | nil => exact Le.refl
  | cons s ts ih => intro σ; exact (wantS_le B σ s).trans (ih _)
theorem eitherS_le (B : List UInt8) (σ : RS) (f s : ByteArray) : Le σ (eitherS B σ f s).1 := by
  unfold eitherS
  split
  · exact txtS_le B σ
  · exact wantS_le B σ s
theorem beginS_le (deep : Nat) (σ : RS) : Le σ (beginS deep σ) := by
  match σ with
  | .error E => exact rfl
  | .ok (p, m) =>
    unfold beginS
    simp only
    split
    · exact trivial
    · exact ⟨Nat.le_refl _, Nat.le_succ _⟩
theorem linkS_le (B : List UInt8) (σ : RS) : Le σ (linkS B σ).1 := ((wantsS_le B _ σ).trans (txtS_le B _)).trans (wantsS_le B _ _)
theorem fileS_le (B : List UInt8) (σ : RS) : Le σ (fileS B σ).1 := by
  refine Le.trans (b := fileS1 B σ) ?_ ((txtS_le B _).trans (wantsS_le B _ _))
  unfold fileS1
  split
  · exact (eitherS_le B σ _ _).trans (wantsS_le B _ _)
  · exact eitherS_le B σ _ _
theorem entS_le (B : List UInt8) (σ : RS) : Le σ (entS B σ).1 := ((wantsS_le B _ σ).trans (txtS_le B _)).trans (wantsS_le B _ _)
theorem kindS_le (B : List UInt8) (deep : Nat) (σ : RS) : Le σ (kindS B deep σ).1 := ((beginS_le deep σ).trans (wantsS_le B _ _)).trans (txtS_le B _)
theorem dirS_le (B : List UInt8) (N : RS → RS × Tr) (hN : ∀ σ, Le σ (N σ).1) (k : Nat) : ∀ σ ns ks, Le σ (dirS B N k σ ns ks).1 := by
  induction k with
  | zero => intro σ ns ks; exact Le.refl σ
  | succ k ih =>
    intro σ ns ks
    rw [dirS]
    split
    · exact ((((eitherS_le B σ _ _).trans (entS_le B _)).trans (hN _)).trans (wantsS_le B _ _)).trans (ih _ _ _)
    · exact eitherS_le B σ _ _
theorem nodeS_le (B : List UInt8) (f : Nat) : ∀ deep σ, Le σ (nodeS B f deep σ).1 := by
  induction f with
  | zero => intro deep σ; exact Le.refl σ
  | succ f ih =>
    intro deep σ
    rw [nodeS]
    split
    · exact (kindS_le B deep σ).trans (fileS_le B _)
    · split
      · exact (kindS_le B deep σ).trans (linkS_le B _)
      · split
        · exact (kindS_le B deep σ).trans (dirS_le B _ (ih _) _ _ _ _)
        · exact (kindS_le B deep σ).trans (failS_le _ _)
/-- Behind an error no text is read. -/
theorem txtS_err {B : List UInt8} {σ : RS} {s : ByteArray} (h : (txtS B σ).2 = s) (hs : s ≠ ⟨#[]⟩) : ∃ p m n, σ = .ok (p, m) ∧ rdT (B.drop p) = .ok n ∧ (txtS B σ).1 = .ok (p + 8 + n + padN n, m) := by
  match σ, h with
  | .error E, h => exact absurd h.symm hs
  | .ok (p, m), h =>
    cases hr : rdT (B.drop p) with
    | error E => simp only [txtS, hr] at h; exact absurd h.symm hs
    | ok n => exact ⟨p, m, n, rfl, hr, by simp only [txtS, hr]⟩
/-- An entry is read: so many bytes more. -/
theorem either_ok {B : List UInt8} {σ : RS} {f s : ByteArray} (h : (eitherS B σ f s).2 = true) (hf : f ≠ ⟨#[]⟩) : ∃ p m p', σ = .ok (p, m) ∧ p + 8 ≤ p' ∧ p' ≤ B.length ∧ (eitherS B σ f s).1 = .ok (p', m) := by
  unfold eitherS at h ⊢
  by_cases hc : (txtS B σ).2 = f
  · rw [if_pos hc] at h ⊢
    obtain ⟨p, m, n, h1, h2, h3⟩ := txtS_err hc hf
    have hl := rdT_le h2
    rw [List.length_drop] at hl
    exact ⟨p, m, _, h1, by omega, by omega, h3⟩
  · rw [if_neg hc] at h; cases h
/-- A dir is read only where it may lie. -/
theorem kind_ok {B : List UInt8} {deep : Nat} {σ : RS} {s : ByteArray} (h : (kindS B deep σ).2 = s) (hs : s ≠ ⟨#[]⟩) : deep ≤ 64 ∧ ∃ p m p' m', σ = .ok (p, m) ∧ m < m' ∧ (kindS B deep σ).1 = .ok (p', m') := by
  unfold kindS at h ⊢
  obtain ⟨p', m', n, h1, h2, h3⟩ := txtS_err h hs
  have h4 := wantsS_le B [bOpen, bType] (beginS deep σ)
  rw [h1] at h4
  match σ, h4 with
  | .error E, h4 => cases h4
  | .ok (p, m), h4 =>
    unfold beginS at h4
    simp only at h4
    by_cases hc : 65536 < m + 1 ∨ 64 < deep
    · rw [if_pos hc] at h4; cases h4
    · rw [if_neg hc] at h4
      exact ⟨by omega, p, m, _, m', rfl, by have := h4.2; omega, h3⟩
end Go.Proofs.Ytikamklgelcnhaa
