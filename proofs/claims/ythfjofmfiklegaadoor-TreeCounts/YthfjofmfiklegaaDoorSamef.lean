/- Same, in the code: alike trees. -/
import Derived.Test.YthfjofmfiklegaaDoorK6
import Derived.Test.YthfjofmfiklegaaDoorK2
import Derived.Test.YthfjofmfiklegaaDoorK1
namespace Go.Proofs.YthfjofmfiklegaaDoor
open Go.RowKit
set_option maxRecDepth 20000 in
set_option maxHeartbeats 1000000 in
theorem seq49_any (lo hi lo' hi' : Nat) (a b : Option Addr) (n m c d : Nat) (xs ys : List ByteArray) (w : World) (hx : Row lo hi w (.slice a n c) n (xs.map .string)) (hy : Row lo' hi' w (.slice b m d) m (ys.map .string)) (hn : xs.length = n) (hm : ys.length = m) (hmax : n ≤ 1000000) (hmax2 : m ≤ 1000000) :
    Calls Tryd.prog 49 #[.slice a n c, .slice b m d] w fun e w' => (∃ q, w' = w.drewN q) ∧ e = .returned (.bool (decide (xs = ys))) := by
  by_cases hnm : n = m
  case neg =>
    have hD : decide (xs = ys) = false := decide_eq_false (fun e => hnm (by rw [← hn, ← hm, e]))
    have e1 : ((n : Int) == (m : Int)) = false := by rw [beq_eq_false_iff_ne]; omega
    rw [hD]
    clear hx hy hnm hn hm
    go_enter Tryd.func49, Tryd.ntmps49
    go_wp2_with fail
    go_ret
    exact ⟨⟨0, rfl⟩, rfl⟩
  case pos =>
  subst hnm
  have HX : Hid (∀ i, i < n → ∃ g o, a = some ⟨g, o, none⟩ ∧ w.cell? ⟨g, o + i, none⟩ = some (.string (xs.getD i ⟨#[]⟩))) := fun i hi => row_str hx hn i hi
  have HY : Hid (∀ i, i < n → ∃ g o, b = some ⟨g, o, none⟩ ∧ w.cell? ⟨g, o + i, none⟩ = some (.string (ys.getD i ⟨#[]⟩))) := fun i hi => row_str hy hm i hi
  have HN := hide (And.intro hn hm)
  clear hx hy hn hm
  go_enter Tryd.func49, Tryd.ntmps49
  go_wp2_with fail
  go_loopw [13] (fun vi wr => ∃ i : Nat, i ≤ n ∧ vi = .int .i64 (i : Int) ∧ (∃ q, wr = w.drewN q) ∧ Hid (∀ j, j < i → xs.getD j ⟨#[]⟩ = ys.getD j ⟨#[]⟩)) (fun vi _ => n - (intOf vi).toNat)
  case atStart => exact ⟨0, by omega, rfl, ⟨0, rfl⟩, fun j h => by omega⟩
  case round =>
    obtain ⟨i, hin, rfl, ⟨q, rfl⟩, hlo⟩ := hrel
    by_cases hlt : i < n
    · obtain ⟨g, o, rfl, hcx⟩ := unhide HX i hlt
      obtain ⟨g', o', rfl, hcy⟩ := unhide HY i hlt
      by_cases he : xs.getD i ⟨#[]⟩ = ys.getD i ⟨#[]⟩
      · rw [← he] at hcy
        have hlo' : Hid (∀ j, j < i + 1 → xs.getD j ⟨#[]⟩ = ys.getD j ⟨#[]⟩) := fun j hj => by
          rcases Nat.lt_or_ge j i with h | h
          · exact unhide hlo j h
          · obtain rfl : j = i := by omega
            exact he
        clear he hlo
        generalize xs.getD i ⟨#[]⟩ = z at hcx hcy
        go_wp2_with fail
        go_quiet (fail)
        go_wp2_with fail
        go_roundw
        case rel => exact ⟨i + 1, by omega, by go_num, ⟨_, rfl⟩, hlo'⟩
        case measure => simp [intOf]; try omega
      · have hne := bytes_ne he
        have hD : decide (xs = ys) = false := decide_eq_false (fun e => he (by rw [e]))
        have HD := hide hD
        clear he hD hlo
        generalize xs.getD i ⟨#[]⟩ = z at hcx hne
        generalize ys.getD i ⟨#[]⟩ = z' at hcy hne
        go_wp2_with fail
        go_quiet (fail)
        go_wp2_with fail
        go_ret
        exact ⟨⟨_, World.drewN_drewN _ _ _⟩, by rw [unhide HD]; rfl⟩
    · obtain rfl : i = n := by omega
      have hD : decide (xs = ys) = true := decide_eq_true (list_eq_of (by rw [(unhide HN).1, (unhide HN).2]) (fun j hj => unhide hlo j (by rw [(unhide HN).1] at hj; exact hj)))
      have HD := hide hD
      clear hD
      go_wp2_with fail
      go_ret
      exact ⟨⟨_, rfl⟩, by rw [unhide HD]; rfl⟩
theorem toList_beq (d d' : ByteArray) : (d.toList == d'.toList) = decide (d = d') := by
  by_cases h : d = d'
  · subst h; simp
  · rw [decide_eq_false h]; exact bytes_ne h
set_option maxRecDepth 20000 in
set_option maxHeartbeats 1000000 in
theorem beq48_any (lo hi lo' hi' : Nat) (a a' : Option Addr) (c c' : Nat) (d d' : ByteArray) (w : World) (h : Row lo hi w (.slice a d.size c) d.size (byteVals d)) (h' : Row lo' hi' w (.slice a' d'.size c') d'.size (byteVals d')) :
    Calls Tryd.prog 48 #[.slice a d.size c, .slice a' d'.size c'] w fun e w' => e = .returned (.bool (decide (d = d'))) ∧ w' = w := by
  have h1 := run_cv22 h
  have h2 := run_cv22 h'
  have h3 := toList_beq d d'
  clear h h'
  generalize hb : decide (d = d') = b at *
  clear hb
  go_enter Tryd.func48, Tryd.ntmps48
  go_wp2_with fail
  go_ret
  exact ⟨rfl, rfl⟩
set_option maxRecDepth 20000 in
set_option maxHeartbeats 4000000 in
theorem eqf_any (ks ks' : List Tr) (Ks Ks' : List (List Value)) (lo hi lo' hi' N M : Nat) (ak ak' : Option Addr) (ck ck' : Nat) (w : World)
    (hk : Row lo hi w (.slice ak N ck) N Ks.flatten) (hl : Ks.length = ks.length) (hK : ∀ (i : Nat) (t : Tr) (c : List Value), ks[i]? = some t → Ks[i]? = some c → Lies lo hi w t c)
    (hk' : Row lo' hi' w (.slice ak' M ck') M Ks'.flatten) (hl' : Ks'.length = ks'.length) (hK' : ∀ (i : Nat) (t : Tr) (c : List Value), ks'[i]? = some t → Ks'[i]? = some c → Lies lo' hi' w t c)
    (hN : ks.length = N) (hM : ks'.length = M) (hNm : N ≤ 100000) (hMm : M ≤ 100000) (hhi : hi ≤ w.heap.size) (hhi' : hi' ≤ w.heap.size)
    (ih : ∀ t ∈ ks, ∀ u ∈ ks', ∀ (cs cs' : List Value) (w : World), Lies lo hi w t cs → Lies lo' hi' w u cs' → hi ≤ w.heap.size → hi' ≤ w.heap.size → Calls Tryd.prog 36 #[.agg cs.toArray, .agg cs'.toArray] w fun e w' => Below w.heap.size w w' ∧ ((t = u ∧ e = .returned (.bool true)) ∨ (t ≠ u ∧ e = .returned (.bool false)))) :
    Calls Tryd.prog 50 #[.slice ak N ck, .slice ak' M ck', .func (Fn.func 36) #[] #[]] w fun e w' => Below w.heap.size w w' ∧ ((ks = ks' ∧ e = .returned (.bool true)) ∨ (ks ≠ ks' ∧ e = .returned (.bool false))) := by
  by_cases hnm : N = M
  case neg =>
    have hD : ks ≠ ks' := fun e => hnm (by rw [← hN, ← hM, e])
    have e1 : ((N : Int) == (M : Int)) = false := by rw [beq_eq_false_iff_ne]; omega
    have HD := hide hD
    clear hk hk' hnm hN hM hK hK' hl hl' ih hD
    go_enter Tryd.func50, Tryd.ntmps50
    go_wp2_with fail
    go_ret
    exact ⟨Below.refl _ _, .inr ⟨unhide HD, rfl⟩⟩
  case pos =>
  subst hnm
  have HR := hide (And.intro hk (And.intro hl hK))
  have HR' := hide (And.intro hk' (And.intro hl' hK'))
  have HI := hide ih
  have HN := hide (And.intro hN hM)
  clear hk hk' hl hl' hK hK' ih hN hM
  go_enter Tryd.func50, Tryd.ntmps50
  go_wp2_with fail
  go_loopw [17] (fun vi wr => ∃ i : Nat, i ≤ N ∧ vi = .int .i64 (i : Int) ∧ Below w.heap.size w wr ∧ Hid (∀ j, j < i → ks[j]? = ks'[j]?)) (fun vi _ => N - (intOf vi).toNat)
  case atStart => exact ⟨0, by omega, rfl, Below.refl _ _, fun j h => by omega⟩
  case round =>
    obtain ⟨i, hin, rfl, hb, hlo⟩ := hrel
    have hsb := hb.size
    by_cases hlt : i < N
    · have hi1 : i < ks.length := by rw [(unhide HN).1]; exact hlt
      have hi2 : i < ks'.length := by rw [(unhide HN).2]; exact hlt
      obtain ⟨g, o, rfl, hg1, hg2, hcell⟩ := (unhide HR).1.at (by omega)
      obtain ⟨g', o', rfl, hg1', hg2', hcell'⟩ := (unhide HR').1.at (by omega)
      obtain ⟨k1, x1, b1, b2, b3, b4, b5, b6, b7, b8, b9, hLi, y0, y1, y2, y3, y4⟩ := kid_sl (unhide HR).2.1 (fun j u hj => by rw [hb.cell (p := ⟨g, o + j, none⟩) (show g < w.heap.size by omega)]; exact hcell j u hj) (fun i t c h1 h2 => ((unhide HR).2.2 i t c h1 h2).kept hb hhi) i hi1
      obtain ⟨k2, x2, d1, d2, d3, d4, d5, d6, d7, d8, d9, hLi', z0, z1, z2, z3, z4⟩ := kid_sl (unhide HR').2.1 (fun j u hj => by rw [hb.cell (p := ⟨g', o' + j, none⟩) (show g' < w.heap.size by omega)]; exact hcell' j u hj) (fun i t c h1 h2 => ((unhide HR').2.2 i t c h1 h2).kept hb hhi') i hi2
      obtain ⟨w3, hw3⟩ : ∃ w3, w3 = (wr.alloc (.cells #[.int .i64 k1, .bool x1, .slice b1 b2 b3, .slice b4 b5 b6, .slice b7 b8 b9] 26)).alloc (.cells #[.int .i64 k2, .bool x2, .slice d1 d2 d3, .slice d4 d5 d6, .slice d7 d8 d9] 26) := ⟨_, rfl⟩
      have hb3 : Below wr.heap.size wr w3 := by rw [hw3]; exact ((Below.refl _ _).alloc (Nat.le_refl _) _).alloc (by simp) _
      have hs3 := hb3.size
      have HC := hide (unhide HI ks[i] (List.getElem_mem hi1) ks'[i] (List.getElem_mem hi2) _ _ w3 (hLi.kept hb3 (by omega)) (hLi'.kept hb3 (by omega)) (by omega) (by omega))
      have HE : Hid (ks[i]? = some ks[i] ∧ ks'[i]? = some ks'[i]) := ⟨List.getElem?_eq_getElem hi1, List.getElem?_eq_getElem hi2⟩
      have Hw3 := hide hw3
      have Hb := hide (hb.trans (hb3.mono (by omega)))
      have hgr : g < wr.heap.size := by omega
      have hgr' : g' < wr.heap.size := by omega
      clear hcell hcell' hLi hLi' hb3 hb hw3
      generalize ks[i] = t at *
      generalize ks'[i] = u at *
      go_wp2_with fail
      rw [← unhide Hw3]
      refine (unhide HC).mono ?_
      rintro e w4 ⟨hb4, hans⟩
      have hs4 := hb4.size
      have Hb4 := hide ((unhide Hb).trans (hb4.mono (by omega)))
      clear hb4 HC Hb y0 y1 y2 y3 y4 z0 z1 z2 z3 z4 Hw3
      rcases hans with ⟨rfl, rfl⟩ | ⟨hne, rfl⟩
      · have hlo' : Hid (∀ j, j < i + 1 → ks[j]? = ks'[j]?) := fun j hj => by
          rcases Nat.lt_or_ge j i with h | h
          · exact unhide hlo j h
          · obtain rfl : j = i := by omega
            rw [(unhide HE).1, (unhide HE).2]
        clear hlo
        go_wp2_with fail
        go_roundw
        case rel => exact ⟨i + 1, by omega, by go_num, unhide Hb4, hlo'⟩
        case measure => simp [intOf]; try omega
      · have HD : Hid (ks ≠ ks') := fun e => hne (by have h := (unhide HE).1; rw [e, (unhide HE).2] at h; exact (Option.some.inj h).symm)
        clear hne hlo
        go_wp2_with fail
        go_ret
        exact ⟨unhide Hb4, .inr ⟨unhide HD, rfl⟩⟩
    · obtain rfl : N = i := by omega
      have HD : Hid (ks = ks') := trees_all (by rw [(unhide HN).1, (unhide HN).2]) (fun j hj => unhide hlo j (by rw [(unhide HN).1] at hj; exact hj))
      have Hb := hide hb
      clear hlo hb
      go_wp2_with fail
      go_ret
      exact ⟨unhide Hb, .inl ⟨unhide HD, rfl⟩⟩
set_option maxRecDepth 20000 in
set_option maxHeartbeats 4000000 in
theorem same_any (T : Tr) : ∀ (U : Tr) (lo hi lo' hi' : Nat) (cs cs' : List Value) (w : World), Lies lo hi w T cs → Lies lo' hi' w U cs' → wt T ≤ 100000 → wt U ≤ 100000 → hi ≤ w.heap.size → hi' ≤ w.heap.size →
    Calls Tryd.prog 36 #[.agg cs.toArray, .agg cs'.toArray] w fun e w' => Below w.heap.size w w' ∧ ((T = U ∧ e = .returned (.bool true)) ∨ (T ≠ U ∧ e = .returned (.bool false))) := by
  induction T using Tr.ind with
  | h k x d ns ks ih =>
  intro U lo hi lo' hi' cs cs' w hL hL' hW hW' hhi hhi'
  have HSm := hide (small_of hW)
  cases hL with
  | mk _ _ _ _ _ vd vn vk Ks hl hd hn hk hK =>
  obtain ⟨ad, cd, rfl, hcd⟩ := hd.slice
  obtain ⟨an, cn, rfl, hcn⟩ := hn.slice
  obtain ⟨ak, ck, rfl, hck⟩ := hk.slice
  cases hL' with
  | mk k' x' d' ns' ks' vd' vn' vk' Ks' hl' hd' hn' hk' hK' =>
  obtain ⟨ad', cd', rfl, hcd'⟩ := hd'.slice
  obtain ⟨an', cn', rfl, hcn'⟩ := hn'.slice
  obtain ⟨ak', ck', rfl, hck'⟩ := hk'.slice
  have HSm' := hide (small_of hW')
  obtain ⟨wA, hwA⟩ : ∃ wA, wA = ((w.alloc (.cells #[.int .i64 k, .bool x, .slice ad d.size cd, .slice an ns.length cn, .slice ak ks.length ck] 26)).alloc (.cells #[.int .i64 k', .bool x', .slice ad' d'.size cd', .slice an' ns'.length cn', .slice ak' ks'.length ck'] 26)) := ⟨_, rfl⟩
  have hb0 : Below w.heap.size w wA := by rw [hwA]; exact ((Below.refl _ _).alloc (Nat.le_refl _) _).alloc (by simp) _
  have HQ := hide (beq48_any lo hi lo' hi' ad ad' cd cd' d d' wA (hd.below hb0 hhi) (hd'.below hb0 hhi'))
  have HM := hide (seq49_any lo hi lo' hi' an an' ns.length ns'.length cn cn' ns ns' wA (hn.below hb0 hhi) (hn'.below hb0 hhi') rfl rfl (by have := (unhide HSm).n; omega) (by have := (unhide HSm').n; omega))
  have hx1 : Bx wA w.heap.size (.int .i64 k) (.bool x) (.slice ad d.size cd) (.slice an ns.length cn) (.slice ak ks.length ck) := by rw [hwA]; exact (bx_new w _ _ _ _ _).kept ((Below.refl (w.heap.size + 1) _).alloc (by simp) _) (by omega)
  have hx2 : Bx wA (w.heap.size + 1) (.int .i64 k') (.bool x') (.slice ad' d'.size cd') (.slice an' ns'.length cn') (.slice ak' ks'.length ck') := by
    rw [hwA]
    have := bx_new (w.alloc (.cells #[.int .i64 k, .bool x, .slice ad d.size cd, .slice an ns.length cn, .slice ak ks.length ck] 26)) (.int .i64 k') (.bool x') (.slice ad' d'.size cd') (.slice an' ns'.length cn') (.slice ak' ks'.length ck')
    simpa using this
  have hsA : wA.heap.size = w.heap.size + 1 + 1 := by rw [hwA]; simp
  have HX := hide (And.intro hx1 hx2)
  have HB0 := hide hb0
  have HwA := hide hwA
  have HE := hide (fun (W : World) (h : Below wA.heap.size wA W) => eqf_any ks ks' Ks Ks' lo hi lo' hi' ks.length ks'.length ak ak' ck ck' W ((hk.below hb0 hhi).below h (by omega)) hl (fun i t c h1 h2 => ((hK i t c h1 h2).kept hb0 hhi).kept h (by omega)) ((hk'.below hb0 hhi').below h (by omega)) hl' (fun i t c h1 h2 => ((hK' i t c h1 h2).kept hb0 hhi').kept h (by omega)) rfl rfl (by have := (unhide HSm).k; omega) (by have := (unhide HSm').k; omega) (by have := h.size; omega) (by have := h.size; omega)
    (fun t ht u hu cs cs' W h1 h2 h3 h4 => ih t ht u lo hi lo' hi' cs cs' W h1 h2 ((unhide HSm).t t ht) ((unhide HSm').t u hu) h3 h4))
  have HR := hide (And.intro (hk.below hb0 hhi) (And.intro hl (fun i t c h1 h2 => (hK i t c h1 h2).kept hb0 hhi)))
  clear hd hn hk hl hK hd' hn' hl' hb0 hW hW' hwA ih hx1 hx2
  by_cases h1 : k = k'
  case neg =>
    have HN : Hid (Tr.mk k x d ns ks ≠ Tr.mk k' x' d' ns' ks') := fun h => h1 (by injection h)
    go_enter Tryd.func36, Tryd.ntmps36
    go_wp2_with fail
    rw [← unhide HwA]
    go_ret
    exact ⟨unhide HB0, .inr ⟨unhide HN, rfl⟩⟩
  subst h1
  by_cases h2 : x = x'
  case neg =>
    have e1 : (x == x') = false := by simpa using h2
    have HN : Hid (Tr.mk k x d ns ks ≠ Tr.mk k x' d' ns' ks') := fun h => h2 (by injection h)
    clear h2
    go_enter Tryd.func36, Tryd.ntmps36
    go_wp2_with fail
    all_goals rw [← unhide HwA]
    all_goals go_ret
    all_goals exact ⟨unhide HB0, .inr ⟨unhide HN, rfl⟩⟩
  subst h2
  go_enter Tryd.func36, Tryd.ntmps36
  go_wp2_with fail
  rw [← unhide HwA]
  refine (unhide HQ).mono ?_
  rintro e w1 ⟨rfl, rfl⟩
  by_cases h3 : d = d'
  case neg =>
    rw [decide_eq_false h3]
    have HN : Hid (Tr.mk k x d ns ks ≠ Tr.mk k x d' ns' ks') := fun h => h3 (by injection h)
    clear h3
    go_wp2_with fail
    go_ret
    exact ⟨unhide HB0, .inr ⟨unhide HN, rfl⟩⟩
  subst h3
  rw [decide_eq_true rfl]
  obtain ⟨y0, y1, y2, y3, y4⟩ := (unhide HX).1.cells
  obtain ⟨z0, z1, z2, z3, z4⟩ := (unhide HX).2.cells
  go_wp2_with fail
  refine (unhide HM).mono ?_
  rintro e w2 ⟨⟨q, rfl⟩, rfl⟩
  by_cases h4 : ns = ns'
  case neg =>
    rw [decide_eq_false h4]
    have HN : Hid (Tr.mk k x d ns ks ≠ Tr.mk k x d ns' ks') := fun h => h4 (by injection h)
    clear h4
    go_wp2_with fail
    go_ret
    exact ⟨below_drewN (unhide HB0) _, .inr ⟨unhide HN, rfl⟩⟩
  subst h4
  rw [decide_eq_true rfl]
  go_wp2_with fail
  refine (unhide HE (w1.drewN q) (below_drewN (Below.refl w1.heap.size w1) q)).mono ?_
  rintro e w3 ⟨hb3, hans⟩
  have hb3' : Below w1.heap.size w1 w3 := ⟨hb3.os, hb3.tape, hb3.output, hb3.size, hb3.block⟩
  have HB3 := hide ((unhide HB0).trans (hb3'.mono (by omega)))
  clear hb3 hb3' y0 y1 y2 y3 y4 z0 z1 z2 z3 z4
  rcases hans with ⟨h5, rfl⟩ | ⟨h5, rfl⟩
  · subst h5
    go_wp2_with fail
    go_ret
    exact ⟨unhide HB3, rfl⟩
  · have HN : Hid (Tr.mk k x d ns ks ≠ Tr.mk k x d ns ks') := fun h => h5 (by injection h)
    clear h5
    go_wp2_with fail
    go_ret
    exact ⟨unhide HB3, .inr ⟨unhide HN, rfl⟩⟩
end Go.Proofs.YthfjofmfiklegaaDoor
