import Derived.Test.YthfjofmfiklegaaDoorK4
import Derived.Deep.RegionHeld3
import Derived.Test.YthfjofmfiklegaaDoorK3
import Derived.Deep.RegionWith
/- laid, in the code. -/
namespace Go.Proofs.YthfjofmfiklegaaDoor
open Go.RowKit
attribute [local go_sem ↓] slice_sl23 slice_sl24
def zeroT : List Value := [.int .i64 0, .bool false, .slice none 0 0, .slice none 0 0, .slice none 0 0]
/-- What laid answers. -/
def LaidA (m B : Nat) (r : Except Nat Tr) (e : Ending) (w' : World) : Prop := match r with
  | .error n => e = .returned (.tuple #[.agg zeroT.toArray, .int .i64 (n : Int)])
  | .ok T => ∃ cs, e = .returned (.tuple #[.agg cs.toArray, .int .i64 0]) ∧ Lays m B w' T cs
set_option linter.unusedSimpArgs false
theorem one_strsL (ns : List ByteArray) (l : List Value) (h : ∀ u, u ∈ l → u ∈ ns.map Value.string) : ∀ u ∈ l, u.oneCell' = true := fun u hu => by
  obtain ⟨s, _, rfl⟩ := List.mem_map.1 (h u hu); rfl
theorem ones_flat {lo hi : Nat} {w : World} {ks : List Tr} {Ks : List (List Value)} (hl : Ks.length = ks.length) (hK : ∀ (i : Nat) (t : Tr) (c : List Value), ks[i]? = some t → Ks[i]? = some c → Lies lo hi w t c) : ∀ u ∈ Ks.flatten, u.oneCell' = true := fun u hu => by
  obtain ⟨c, hc, huc⟩ := List.mem_flatten.1 hu
  obtain ⟨i, hi, rfl⟩ := List.getElem_of_mem hc
  obtain ⟨_, _, _, _, _, _, _, _, _, _, _, e⟩ := (hK i ks[i] Ks[i] (List.getElem?_eq_getElem (by omega)) (List.getElem?_eq_getElem hi)).form
  rw [e] at huc
  simp at huc
  rcases huc with h | h | h | h | h <;> subst h <;> rfl
theorem laidS_err {l : List ByteArray} : ∀ {T X : Tr} {deep n : Nat}, laidS T l X deep = .error n → n ≠ 0 := by
  induction l with
  | nil => intro T X deep n h; cases T; rw [laidS] at h; split at h <;> cases h; decide
  | cons a r ih =>
    intro T X deep n h
    cases T with
    | mk k x d ns ks =>
    rw [laidS] at h
    split at h
    · cases h; decide
    split at h
    · cases hq : laidS (kidAt ns ks a) r X (deep + 1) with
      | error e => rw [hq] at h; cases h; exact ih hq
      | ok t => rw [hq] at h; cases h
    · cases h; decide
set_option maxRecDepth 20000 in
set_option maxHeartbeats 2000000 in
theorem laid_any (m : Nat) (l : List ByteArray) : ∀ (T X : Tr) (lo hi lo' hi' deep : Nat) (cs cx : List Value) (w : World), Lies lo hi w T cs → Lies lo' hi' w X cx → hi ≤ m → hi' ≤ m → m ≤ w.heap.size → Nice T → wt T ≤ 100000 → (∀ n ∈ l, entB n = true) → (joinB l).size ≤ 1000000 → deep ≤ 65 →
    Calls Tryd.prog 41 #[.agg cs.toArray, .string (joinB l), .agg cx.toArray, .int .i64 (deep : Int)] w fun e w' => Below w.heap.size w w' ∧ LaidA m w.heap.size (laidS T l X deep) e w' := by
  induction l with
  | nil =>
    intro T X lo hi lo' hi' deep cs cx w hL hX hhm hhm' hmw hN hW hent hsz hdp
    obtain ⟨kt, xt, at0, nt, ct, bt, mt, dt, et, pt, qt, rfl⟩ := hL.form
    obtain ⟨kx, xx, ax, nx, cxx, bx, mx, dx, ex, px, qx, rfl⟩ := hX.form
    have e0 : joinB [] = ⟨#[]⟩ := rfl
    rw [e0]
    have HX := hide hX
    clear e0 hL hX hN hW hent hsz
    by_cases hdeep : 64 < deep
    · have HS : Hid (laidS T [] X deep = .error 5) := by show laidS _ _ _ _ = _; cases T; rw [laidS, if_pos hdeep]
      go_enter Tryd.func41, Tryd.ntmps41
      go_wp2_with fail
      rw [unhide HS]
      refine bodyPost_ret (v := .tuple #[.agg zeroT.toArray, .int .i64 5]) (by simp [results, Tryd.results41, go_sem, zeroT]) rfl ⟨?_, rfl⟩
      exact (((Below.refl _ _).alloc (Nat.le_refl _) _).alloc (by simp) _).alloc (by simp; omega) _
    · have HS : Hid (laidS T [] X deep = .ok X) := by show laidS _ _ _ _ = _; cases T; rw [laidS, if_neg hdeep]
      have hd1 : ¬ (64 : Int) < (deep : Int) := by omega
      go_enter Tryd.func41, Tryd.ntmps41
      go_wp2_with fail
      rw [unhide HS]
      refine bodyPost_ret (v := .tuple #[.agg #[.int .i64 kx, .bool xx, .slice ax nx cxx, .slice bx mx dx, .slice ex px qx], .int .i64 0]) (by simp [results, Tryd.results41, go_sem]) rfl ⟨?_, ?_⟩
      · exact (((Below.refl _ _).alloc (Nat.le_refl _) _).alloc (by simp) _).alloc (by simp; omega) _
      · refine ⟨[.int .i64 kx, .bool xx, .slice ax nx cxx, .slice bx mx dx, .slice ex px qx], rfl, ?_⟩
        refine lays_of ((unhide HX).kept (B := w.heap.size) ((((Below.refl _ _).alloc (Nat.le_refl _) _).alloc (by simp) _).alloc (by simp; omega) _) (by omega)) hhm' ?_
        simp; omega
  | cons nm r ih =>
    intro T X lo hi lo' hi' deep cs cx w hL hX hhm hhm' hmw hN hW hent hsz hdp
    have hhi : hi ≤ w.heap.size := by omega
    have hhi' : hi' ≤ w.heap.size := by omega
    obtain ⟨kx, xx, ax, nx, cxx, bx, mx, dx, ex, px, qx, rfl⟩ := hX.form
    have hSm : ∃ k x d ns ks, T = .mk k x d ns ks := by cases T; exact ⟨_, _, _, _, _, rfl⟩
    obtain ⟨k, x, d, ns, ks, rfl⟩ := hSm
    have hSm := small_of hW
    obtain ⟨hri, hln, hnk⟩ : Rise ns ∧ ns.length = ks.length ∧ ∀ t ∈ ks, Nice t := by cases hN with | mk _ _ _ _ _ h1 h2 h3 => exact ⟨h1, h2, h3⟩
    cases hL with
    | mk _ _ _ _ _ vd vn vk Ks hl hd hn hk hK =>
    obtain ⟨ad, cd, rfl, hcd⟩ := hd.slice
    obtain ⟨an, cn, rfl, hcn⟩ := hn.slice
    obtain ⟨ak, ck, rfl, hck⟩ := hk.slice
    have hpl : ((joinB (nm :: r)).toList == []) = false := by
      rw [beq_eq_false_iff_ne, ByteArray.toList_eq]
      intro h
      have h1 := entB_pos (hent nm (by simp))
      have h2 := join_mem (parts := nm :: r) (x := nm) (by simp)
      have h3 : (joinB (nm :: r)).data.toList.length = 0 := by rw [h]; rfl
      have h4 : (joinB (nm :: r)).size = (joinB (nm :: r)).data.toList.length := by simp
      omega
    by_cases hdeep : 64 < deep
    · have HS : Hid (laidS (.mk k x d ns ks) (nm :: r) X deep = .error 5) := by show laidS _ _ _ _ = _; rw [laidS, if_pos hdeep]
      go_enter Tryd.func41, Tryd.ntmps41
      go_wp2_with fail
      rw [unhide HS]
      refine bodyPost_ret (v := .tuple #[.agg zeroT.toArray, .int .i64 5]) (by simp [results, Tryd.results41, go_sem, zeroT]) rfl ⟨?_, rfl⟩
      exact (((Below.refl _ _).alloc (Nat.le_refl _) _).alloc (by simp) _).alloc (by simp; omega) _
    by_cases hk2 : k = 2
    case neg =>
      have HS : Hid (laidS (.mk k x d ns ks) (nm :: r) X deep = .error 8) := by show laidS _ _ _ _ = _; rw [laidS, if_neg hdeep, if_neg hk2]
      have e2 : (k == 2) = false := by simpa using hk2
      clear hk2
      go_enter Tryd.func41, Tryd.ntmps41
      go_wp2_with fail
      rw [unhide HS]
      refine bodyPost_ret (v := .tuple #[.agg zeroT.toArray, .int .i64 8]) (by simp [results, Tryd.results41, go_sem, zeroT]) rfl ⟨?_, rfl⟩
      exact (((Below.refl _ _).alloc (Nat.le_refl _) _).alloc (by simp) _).alloc (by simp; omega) _
    subst hk2
    have HS : Hid (laidS (.mk 2 x d ns ks) (nm :: r) X deep = (match laidS (kidAt ns ks nm) r X (deep + 1) with
      | .error e => .error e
      | .ok t => .ok (.mk 2 false ⟨#[]⟩ (ns.take (pos ns nm) ++ [nm] ++ ns.drop (nextAt ns nm)) (ks.take (pos ns nm) ++ [t] ++ ks.drop (nextAt ns nm))))) := by show laidS _ _ _ _ = _; rw [laidS, if_neg hdeep, if_pos rfl]; cases laidS (kidAt ns ks nm) r X (deep + 1) <;> rfl
    obtain ⟨wA, hwA⟩ : ∃ wA, wA = ((w.alloc (.cells #[.int .i64 2, .bool x, .slice ad d.size cd, .slice an ns.length cn, .slice ak ks.length ck] 26)).alloc (.cells #[.int .i64 kx, .bool xx, .slice ax nx cxx, .slice bx mx dx, .slice ex px qx] 26)).alloc (.cells #[.int .i64 0, .bool false, .slice none 0 0, .slice none 0 0, .slice none 0 0] 26) := ⟨_, rfl⟩
    have hsA : wA.heap.size = w.heap.size + 1 + 1 + 1 := by rw [hwA]; simp
    have hbA : Below w.heap.size w wA := by rw [hwA]; exact (((Below.refl _ _).alloc (Nat.le_refl _) _).alloc (by simp) _).alloc (by simp; omega) _
    have hbt : Bx wA w.heap.size (.int .i64 2) (.bool x) (.slice ad d.size cd) (.slice an ns.length cn) (.slice ak ks.length ck) := by
      rw [hwA]
      exact (bx_new w _ _ _ _ _).kept (((Below.refl (w.heap.size + 1) _).alloc (by simp) _).alloc (by simp) _) (by omega)
    have hbx : Bx wA (w.heap.size + 1) (.int .i64 kx) (.bool xx) (.slice ax nx cxx) (.slice bx mx dx) (.slice ex px qx) := by
      rw [hwA]
      have := (bx_new (w.alloc (.cells #[.int .i64 2, .bool x, .slice ad d.size cd, .slice an ns.length cn, .slice ak ks.length ck] 26)) (.int .i64 kx) (.bool xx) (.slice ax nx cxx) (.slice bx mx dx) (.slice ex px qx)).kept ((Below.refl (w.heap.size + 1 + 1) _).alloc (by simp) (.cells #[.int .i64 0, .bool false, .slice none 0 0, .slice none 0 0, .slice none 0 0] 26)) (by simp)
      simpa using this
    have hbr : Bx wA (w.heap.size + 1 + 1) (.int .i64 0) (.bool false) (.slice none 0 0) (.slice none 0 0) (.slice none 0 0) := by
      rw [hwA]
      have := bx_new ((w.alloc (.cells #[.int .i64 2, .bool x, .slice ad d.size cd, .slice an ns.length cn, .slice ak ks.length ck] 26)).alloc (.cells #[.int .i64 kx, .bool xx, .slice ax nx cxx, .slice bx mx dx, .slice ex px qx] 26)) (.int .i64 0) (.bool false) (.slice none 0 0) (.slice none 0 0) (.slice none 0 0)
      simpa using this
    have hd1 : ¬ (64 : Int) < (deep : Int) := by omega
    have HCut := hide (fun w => cut_any nm r w (entB_no (hent nm (by simp))) hsz)
    have HSe := hide (fun w (h : Row lo hi w (.slice an ns.length cn) ns.length (ns.map .string)) => search_any lo hi an cn ns nm w h hri (by have := hSm.n; omega))
    have hsz' : (joinB r).size ≤ 1000000 := by
      cases r with
      | nil => exact Nat.zero_le _
      | cons m r' => rw [join_size] at hsz; omega
    have HI := hide (fun (T : Tr) (cs : List Value) (w : World) (h1 : Lies lo hi w T cs) (h2 : Lies lo' hi' w X [.int .i64 kx, .bool xx, .slice ax nx cxx, .slice bx mx dx, .slice ex px qx]) (h3 : m ≤ w.heap.size) (h5 : Nice T) (h6 : wt T ≤ 100000) => ih T X lo hi lo' hi' (deep + 1) cs _ w h1 h2 hhm hhm' h3 h5 h6 (fun n hn => hent n (by simp [hn])) hsz' (by omega))
    have HT := hide (And.intro hX (And.intro hn (And.intro hk (And.intro hl (And.intro hK (And.intro hSm (And.intro hln hnk)))))))
    have HA := hide (And.intro hsA (And.intro hbA (And.intro hbt (And.intro hbx hbr))))
    have HwA := hide hwA
    have Hj := hide (And.intro hsz hent)
    clear hX hn hk hl hK hSm hsA hbA hbt hbx hbr hwA hd hN hW hsz hent hri hnk ih hsz' hdp hln
    generalize joinB (nm :: r) = pl at *
    generalize joinB r = pr at *
    go_enter Tryd.func41, Tryd.ntmps41
    go_wp2_with fail
    rw [← unhide HwA]
    refine (unhide HCut wA).mono ?_
    rintro e w1 ⟨⟨q, rfl⟩, b, rfl⟩
    clear HCut
    obtain ⟨c0, c1, c2, c3, c4⟩ := (unhide HA).2.2.1.cells
    go_wp2_with fail
    refine (unhide HSe _ (((unhide HT).2.1.below (unhide HA).2.1 hhi).below (below_drewN (Below.refl wA.heap.size wA) q) (by have := (unhide HA).1; omega))).mono ?_
    rintro e w1 ⟨hw1, hF⟩
    rw [hw1]
    obtain ⟨rfl, hple⟩ := found_pos hF
    clear hw1 w1 hF HSe
    have hsA := (unhide HA).1
    have hlA : w.heap.size < wA.heap.size := by omega
    have hlA1 : w.heap.size + 1 < wA.heap.size := by omega
    have hlA2 : w.heap.size + 1 + 1 < wA.heap.size := by omega
    obtain ⟨y0, y1, y2, y3, y4⟩ := (unhide HA).2.2.2.1.cells
    have hslv : ks.length = ns.length := (unhide HT).2.2.2.2.2.2.1.symm
    have HLen := hide hslv
    clear hslv
    cases hh : has ns nm
    case false =>
      have HKl : Hid (Lies lo hi ((wA.drewN q).alloc (.cells #[.int .i64 2, .bool false, .slice none 0 0, .slice none 0 0, .slice none 0 0] 26)) (kidAt ns ks nm) [.int .i64 2, .bool false, .slice none 0 0, .slice none 0 0, .slice none 0 0]) := by
        show Lies _ _ _ _ _
        rw [kidAt_no hh]
        exact empty_lies _ _ _
      have HNx := hide (nextAt_no hh)
      go_wp2_with fail
      have HI2 := hide (unhide HI (kidAt ns ks nm) [.int .i64 2, .bool false, .slice none 0 0, .slice none 0 0, .slice none 0 0] ((wA.drewN q).alloc (.cells #[.int .i64 2, .bool false, .slice none 0 0, .slice none 0 0, .slice none 0 0] 26)) (unhide HKl) (((unhide HT).1.kept (unhide HA).2.1 hhi').kept (((below_drewN (Below.refl wA.heap.size wA) q)).alloc (Nat.le_refl _) _) (by omega)) (by simp; omega) (kidAt_nice (unhide HT).2.2.2.2.2.2.2) (kidAt_wt (unhide HT).2.2.2.2.2.1.t))
      obtain ⟨wK, hwK⟩ : ∃ wK, wK = (wA.drewN q).alloc (.cells #[.int .i64 2, .bool false, .slice none 0 0, .slice none 0 0, .slice none 0 0] 26) := ⟨_, rfl⟩
      have hbK : Below wA.heap.size wA wK := by rw [hwK]; exact ((below_drewN (Below.refl wA.heap.size wA) q)).alloc (Nat.le_refl _) _
      have hsK : wK.heap.size = wA.heap.size + 1 := by rw [hwK]; simp
      have hkK : Bx wK (w.heap.size + 1 + 1 + 1) (.int .i64 2) (.bool false) (.slice none 0 0) (.slice none 0 0) (.slice none 0 0) := by
        rw [hwK]
        have := bx_new (wA.drewN q) (.int .i64 2) (.bool false) (.slice none 0 0) (.slice none 0 0) (.slice none 0 0)
        rw [World.heap_drewN, hsA] at this
        exact this
      rw [← hwK] at HI2 ⊢
      clear hwK HKl HI
      refine (unhide HI2).mono ?_
      rintro e w4 ⟨hb4, hans⟩
      clear HI2
      have hs4 := hb4.size
      have hw4 : Below w.heap.size w w4 := ((unhide HA).2.1.trans (hbK.mono (by omega))).trans (hb4.mono (by omega))
      have hr4 := (((unhide HA).2.2.2.2.kept hbK (by omega)).kept hb4 (by omega))
      have hk4 := hkK.kept hb4 (by omega)
      have ht4 := (((unhide HA).2.2.1.kept hbK (by omega)).kept hb4 (by omega))
      cases hlr : laidS (kidAt ns ks nm) r X (deep + 1) with
      | error en =>
        rw [hlr] at hans HS
        have he : e = .returned (.tuple #[.agg zeroT.toArray, .int .i64 (en : Int)]) := hans
        subst he
        have hen : ((en : Int) == 0) = false := by
          rw [beq_eq_false_iff_ne]; have := laidS_err hlr; omega
        obtain ⟨z0, z1, z2, z3, z4⟩ := hk4.cells
        have zf0 := hk4.fr 0
        have zf1 := hk4.fr 1
        have zf2 := hk4.fr 2
        have zf3 := hk4.fr 3
        have zf4 := hk4.fr 4
        obtain ⟨r0, r1, r2, r3, r4⟩ := hr4.cells
        have rf0 := hr4.fr 0
        have rf1 := hr4.fr 1
        have rf2 := hr4.fr 2
        have rf3 := hr4.fr 3
        have rf4 := hr4.fr 4
        have HB4 := hide hw4
        clear hw4 hr4 hk4 ht4 hb4 hbK hans hlr hkK
        unfold zeroT
        go_wp2_with fail
        rw [unhide HS]
        refine bodyPost_ret (v := .tuple #[.agg zeroT.toArray, .int .i64 (en : Int)]) (by simp [results, Tryd.results41, go_sem, zeroT, r0, r1, r2, r3, r4]) rfl ⟨?_, rfl⟩
        exact below_set5 (below_set5 (unhide HB4) (by omega) _ _ _ _ _) (by omega) _ _ _ _ _
      | ok T' =>
        rw [hlr] at hans HS
        obtain ⟨cs', rfl, hL'⟩ : ∃ cs : List Value, e = .returned (.tuple #[.agg cs.toArray, .int .i64 0]) ∧ Lays m wK.heap.size w4 T' cs := hans
        obtain ⟨j0, j1, f1, g1, h1, f2, g2, h2, f3, g3, h3, rfl⟩ := hL'.lies.form
        obtain ⟨z0, z1, z2, z3, z4⟩ := hk4.cells
        have zf0 := hk4.fr 0
        have zf1 := hk4.fr 1
        have zf2 := hk4.fr 2
        have zf3 := hk4.fr 3
        have zf4 := hk4.fr 4
        have HL' := hide hL'
        have HB4 := hide (And.intro hw4 (And.intro hr4 (And.intro ht4 (And.intro hs4 hk4))))
        clear hw4 hr4 ht4 hb4 hbK hlr hL' hkK hk4
        go_wp2_with fail
        rw [set5_eq]
        obtain ⟨wS, hwS⟩ : ∃ wS, wS = set5 w4 (w.heap.size + 1 + 1 + 1) (.int .i64 j0) (.bool j1) (.slice f1 g1 h1) (.slice f2 g2 h2) (.slice f3 g3 h3) := ⟨_, rfl⟩
        have hsS : wS.heap.size = w4.heap.size := by rw [hwS]; simp
        have htS := (unhide HB4).2.2.1.of (show wS.heap[w.heap.size]? = w4.heap[w.heap.size]? by rw [hwS]; exact set5_other _ _ _ _ _ _ _ _ (by omega))
        have hkS : Bx wS (w.heap.size + 1 + 1 + 1) (.int .i64 j0) (.bool j1) (.slice f1 g1 h1) (.slice f2 g2 h2) (.slice f3 g3 h3) := by rw [hwS]; exact (unhide HB4).2.2.2.2.set5 _ _ _ _ _
        have hrS := (unhide HB4).2.1.of (show wS.heap[w.heap.size + 1 + 1]? = w4.heap[w.heap.size + 1 + 1]? by rw [hwS]; exact set5_other _ _ _ _ _ _ _ _ (by omega))
        have HBS : Hid (Below w.heap.size w wS ∧ ∀ k, k < w4.heap.size → k < m ∨ w.heap.size + 1 + 1 + 1 + 1 ≤ k → wS.heap[k]? = w4.heap[k]?) := by
          refine ⟨by rw [hwS]; exact below_set5 (unhide HB4).1 (by omega) _ _ _ _ _, fun k h1 h2 => ?_⟩
          rw [hwS]; exact set5_other _ _ _ _ _ _ _ _ (by omega)
        rw [← hwS]
        have HwS := hide hwS
        clear hwS z0 z1 z2 z3 z4 zf0 zf1 zf2 zf3 zf4
        obtain ⟨t0, t1, t2, t3, t4⟩ := htS.cells
        obtain ⟨a1, hcut1, hrow1⟩ := cut_hi23 lo hi an ns.length cn (pos ns nm) hcn hple
        obtain ⟨a2, hcut2, hrow2⟩ := cut_lo23 lo hi an ns.length cn (pos ns nm) hcn (by omega)
        obtain ⟨b1, hcut3, hrow3⟩ := cut_hi24 lo hi ak ks.length ck (pos ns nm) hck (by have := unhide HLen; omega)
        obtain ⟨b2, hcut4, hrow4⟩ := cut_lo24 lo hi ak ks.length ck (pos ns nm) hck (by have := unhide HLen; omega)
        have HR1 := hide (And.intro hrow1 (And.intro hrow2 (And.intro hrow3 hrow4)))
        clear hrow1 hrow2 hrow3 hrow4
        have hlS : w.heap.size < wS.heap.size := by omega
        refine wp_region_noPanic ?_
        refine wp_region_held_drew (S := fun w' => w'.cell? ⟨w.heap.size, 3, none⟩ = some (.slice an ns.length cn)) (by kernel_rfl) t3 (fun hHeld => ?_)
        refine wpAnyH_take (i := 0) (v := .pointer (some ⟨w.heap.size, 3, none⟩)) rfl (by kernel_rfl) (by kernel_rfl) (by kernel_rfl) (fun _ _ _ h => h) (Or.inl ⟨by rfl, ?_⟩) hHeld ?_
        · intro w' hS'; go_simp
        try simp only [Act.put, List.getElem_toArray, List.getElem_cons_zero, List.getElem_cons_succ, List.setIfInBounds_toArray, List.set_cons_zero, List.set_cons_succ]
        refine wpAnyH_take (i := 1) (v := .slice an ns.length cn) rfl (by kernel_rfl) (by kernel_rfl) (by kernel_rfl) (fun _ _ _ h => h) (Or.inl ⟨by rfl, ?_⟩) hHeld ?_
        · intro w' hS'; go_simp
        try simp only [Act.put, List.getElem_toArray, List.getElem_cons_zero, List.getElem_cons_succ, List.setIfInBounds_toArray, List.set_cons_zero, List.set_cons_succ]
        refine wpAnyH_take (i := 2) (v := .int .i64 (pos ns nm : Int)) rfl (by kernel_rfl) (by kernel_rfl) (by kernel_rfl) (fun _ _ _ h => h) (Or.inl ⟨by rfl, ?_⟩) hHeld ?_
        · intro w' hS'; go_simp
        try simp only [Act.put, List.getElem_toArray, List.getElem_cons_zero, List.getElem_cons_succ, List.setIfInBounds_toArray, List.set_cons_zero, List.set_cons_succ]
        refine wpAnyH_take (i := 3) (v := .slice a1 (pos ns nm) cn) rfl (by kernel_rfl) (by kernel_rfl) (by kernel_rfl) (fun _ _ _ h => h) (Or.inl ⟨by rfl, ?_⟩) hHeld ?_
        · intro w' hS'; go_simp
        try simp only [Act.put, List.getElem_toArray, List.getElem_cons_zero, List.getElem_cons_succ, List.setIfInBounds_toArray, List.set_cons_zero, List.set_cons_succ]
        refine wpAnyH_take (i := 4) (v := .string nm) rfl (by kernel_rfl) (by kernel_rfl) (by kernel_rfl) (fun _ _ _ h => h) (Or.inl ⟨by rfl, ?_⟩) hHeld ?_
        · intro w' hS'; go_simp
        try simp only [Act.put, List.getElem_toArray, List.getElem_cons_zero, List.getElem_cons_succ, List.setIfInBounds_toArray, List.set_cons_zero, List.set_cons_succ]
        refine wpAnyH_take (i := 6) (v := .pointer (some ⟨w.heap.size, 3, none⟩)) rfl (by kernel_rfl) (by kernel_rfl) (by kernel_rfl) (fun _ _ _ h => h) (Or.inl ⟨by rfl, ?_⟩) hHeld ?_
        · intro w' hS'; go_simp
        try simp only [Act.put, List.getElem_toArray, List.getElem_cons_zero, List.getElem_cons_succ, List.setIfInBounds_toArray, List.set_cons_zero, List.set_cons_succ]
        refine wpAnyH_take (i := 7) (v := .slice an ns.length cn) rfl (by kernel_rfl) (by kernel_rfl) (by kernel_rfl) (fun _ _ _ h => h) (Or.inl ⟨by rfl, ?_⟩) hHeld ?_
        · intro w' hS'; go_simp
        try simp only [Act.put, List.getElem_toArray, List.getElem_cons_zero, List.getElem_cons_succ, List.setIfInBounds_toArray, List.set_cons_zero, List.set_cons_succ]
        refine wpAnyH_take (i := 8) (v := .int .i64 ((pos ns nm : Int))) rfl (by kernel_rfl) (by kernel_rfl) (by kernel_rfl) (fun _ _ _ h => h) (Or.inl ⟨by rfl, ?_⟩) hHeld ?_
        · intro w' hS'; go_simp
        try simp only [Act.put, List.getElem_toArray, List.getElem_cons_zero, List.getElem_cons_succ, List.setIfInBounds_toArray, List.set_cons_zero, List.set_cons_succ]
        refine wpAnyH_take (i := 9) (v := .slice a2 (ns.length - (pos ns nm)) (cn - (pos ns nm))) rfl (by kernel_rfl) (by kernel_rfl) (by kernel_rfl) (fun _ _ _ h => h) (Or.inl ⟨by rfl, ?_⟩) hHeld ?_
        · intro w' hS'; go_simp
        try simp only [Act.put, List.getElem_toArray, List.getElem_cons_zero, List.getElem_cons_succ, List.setIfInBounds_toArray, List.set_cons_zero, List.set_cons_succ]
        refine wpAnyH_ready (rs := [5]) (by kernel_rfl) (by simp) (AllReadyH.cons rfl (fun K hK => ?_) AllReadyH.nil)
        simp only [List.getElem_toArray, List.getElem_cons_zero, List.getElem_cons_succ]
        go_simp
        refine hK.out _ _ ?_ (fun hHeld => ?_)
        · exact (((Below.refl wS.heap.size wS).alloc (Nat.le_refl _) _).drew.cell (p := ⟨w.heap.size, 3, none⟩) hlS).trans t3
        clear hK K
        try simp only [Act.put, List.getElem_toArray, List.getElem_cons_zero, List.getElem_cons_succ, List.setIfInBounds_toArray, List.set_cons_zero, List.set_cons_succ]
        refine wpAnyH_ready (rs := [10]) (by kernel_rfl) (by simp) (AllReadyH.cons rfl (fun K hK => ?_) AllReadyH.nil)
        simp only [List.getElem_toArray, List.getElem_cons_zero, List.getElem_cons_succ]
        go_simp
        refine hK.out _ _ ?_ (fun hHeld => ?_)
        · exact (((((Below.refl wS.heap.size wS).alloc (Nat.le_refl _) _).drew.alloc (by simp) _).drew).cell (p := ⟨w.heap.size, 3, none⟩) hlS).trans t3
        clear hK K
        try simp only [Act.put, List.getElem_toArray, List.getElem_cons_zero, List.getElem_cons_succ, List.setIfInBounds_toArray, List.set_cons_zero, List.set_cons_succ]
        refine wpAnyH_ready (rs := [11]) (by kernel_rfl) (by simp) (AllReadyH.cons rfl (fun K hK => ?_) AllReadyH.nil)
        simp only [List.getElem_toArray, List.getElem_cons_zero, List.getElem_cons_succ]
        go_simp
        have hRn : Row lo hi wS (.slice an ns.length cn) ns.length (ns.map .string) := (unhide HT).2.1.below (unhide HBS).1 hhi
        refine (concat23_set lo hi w4.heap.size a1 a2 (pos ns nm) cn (ns.length - (pos ns nm)) (cn - (pos ns nm)) ((ns.map Value.string).take (pos ns nm)) ((ns.map Value.string).drop (pos ns nm)) nm wS hsS (by omega) ((unhide HR1).1 wS _ (by simp) hRn) ((unhide HR1).2.1 wS _ (by simp) hRn) (by simp; omega) (by simp) (one_strsL _ _ (fun u h => List.mem_of_mem_take h)) (one_strsL _ _ (fun u h => List.mem_of_mem_drop h)) (by have := (unhide HT).2.2.2.2.2.1.n; omega)).mono ?_
        rintro e w5 ⟨aN, cN, rfl, hoN, hb5⟩
        have hs5 := hb5.size
        have hlt5 : w.heap.size + 1 + 1 + 1 < w5.heap.size := by omega
        have ht5 := htS.kept hb5 (by omega)
        have hk5 := hkS.kept hb5 (by omega)
        have hr5 := hrS.kept hb5 (by omega)
        refine hK.out _ _ ht5.cells.2.2.2.1 (fun hHeld => ?_)
        clear hK K
        try simp only [Act.put, List.getElem_toArray, List.getElem_cons_zero, List.getElem_cons_succ, List.setIfInBounds_toArray, List.set_cons_zero, List.set_cons_succ]
        refine wpAnyH_take (i := 12) (v := .slice aN (pos ns nm + 1 + (ns.length - (pos ns nm))) cN) rfl (by kernel_rfl) (by kernel_rfl) (by kernel_rfl) (fun _ _ _ h => h) (Or.inl ⟨by rfl, ?_⟩) hHeld ?_
        · intro w' hS'; go_simp
        try simp only [Act.put, List.getElem_toArray, List.getElem_cons_zero, List.getElem_cons_succ, List.setIfInBounds_toArray, List.set_cons_zero, List.set_cons_succ]
        refine wpAnyH_done (by kernel_rfl) ?_ _
        refine NoPanic.normal ?_
        clear hHeld
        have HN5 := hide (And.intro hoN hb5)
        clear hoN hb5 t0 t1 t2 t3 t4 hRn htS hkS hrS hcut1 hcut2
        go_wp2_with fail
        obtain ⟨t0, t1, t2, t3, t4⟩ := ht5.cells
        obtain ⟨k0, k1, k2, k3, k4⟩ := hk5.cells
        refine wp_region_noPanic ?_
        refine wp_region_held_drew (S := fun w' => Bx w' w.heap.size (.int .i64 2) (.bool x) (.slice ad d.size cd) (.slice an ns.length cn) (.slice ak ks.length ck) ∧ Bx w' (w.heap.size + 1 + 1 + 1) (.int .i64 j0) (.bool j1) (.slice f1 g1 h1) (.slice f2 g2 h2) (.slice f3 g3 h3)) (by kernel_rfl) ⟨ht5, hk5⟩ (fun hHeld => ?_)
        clear t0 t1 t2 t3 t4 k0 k1 k2 k3 k4
        refine wpAnyH_take (i := 0) (v := .pointer (some ⟨w.heap.size, 4, none⟩)) rfl (by kernel_rfl) (by kernel_rfl) (by kernel_rfl) (fun _ _ _ h => h) (Or.inl ⟨by rfl, ?_⟩) hHeld ?_
        · intro w' hS'; go_simp
        try simp only [Act.put, List.getElem_toArray, List.getElem_cons_zero, List.getElem_cons_succ, List.setIfInBounds_toArray, List.set_cons_zero, List.set_cons_succ]
        refine wpAnyH_take (i := 1) (v := .slice ak ks.length ck) rfl (by kernel_rfl) (by kernel_rfl) (by kernel_rfl) (fun _ _ _ h => h) (Or.inl ⟨by rfl, ?_⟩) hHeld ?_
        · intro w' hS'; obtain ⟨t0, t1, t2, t3, t4⟩ := hS'.1.cells; go_simp
        try simp only [Act.put, List.getElem_toArray, List.getElem_cons_zero, List.getElem_cons_succ, List.setIfInBounds_toArray, List.set_cons_zero, List.set_cons_succ]
        refine wpAnyH_take (i := 2) (v := .int .i64 (pos ns nm : Int)) rfl (by kernel_rfl) (by kernel_rfl) (by kernel_rfl) (fun _ _ _ h => h) (Or.inl ⟨by rfl, ?_⟩) hHeld ?_
        · intro w' hS'; go_simp
        try simp only [Act.put, List.getElem_toArray, List.getElem_cons_zero, List.getElem_cons_succ, List.setIfInBounds_toArray, List.set_cons_zero, List.set_cons_succ]
        refine wpAnyH_take (i := 3) (v := .slice b1 (pos ns nm) ck) rfl (by kernel_rfl) (by kernel_rfl) (by kernel_rfl) (fun _ _ _ h => h) (Or.inl ⟨by rfl, ?_⟩) hHeld ?_
        · intro w' hS'; go_simp
        try simp only [Act.put, List.getElem_toArray, List.getElem_cons_zero, List.getElem_cons_succ, List.setIfInBounds_toArray, List.set_cons_zero, List.set_cons_succ]
        refine wpAnyH_take (i := 4) (v := .agg #[.int .i64 j0, .bool j1, .slice f1 g1 h1, .slice f2 g2 h2, .slice f3 g3 h3]) rfl (by kernel_rfl) (by kernel_rfl) (by kernel_rfl) (fun _ _ _ h => h) (Or.inl ⟨by rfl, ?_⟩) hHeld ?_
        · intro w' hS'; obtain ⟨k0, k1, k2, k3, k4⟩ := hS'.2.cells; go_simp
        try simp only [Act.put, List.getElem_toArray, List.getElem_cons_zero, List.getElem_cons_succ, List.setIfInBounds_toArray, List.set_cons_zero, List.set_cons_succ]
        refine wpAnyH_take (i := 6) (v := .pointer (some ⟨w.heap.size, 4, none⟩)) rfl (by kernel_rfl) (by kernel_rfl) (by kernel_rfl) (fun _ _ _ h => h) (Or.inl ⟨by rfl, ?_⟩) hHeld ?_
        · intro w' hS'; go_simp
        try simp only [Act.put, List.getElem_toArray, List.getElem_cons_zero, List.getElem_cons_succ, List.setIfInBounds_toArray, List.set_cons_zero, List.set_cons_succ]
        refine wpAnyH_take (i := 7) (v := .slice ak ks.length ck) rfl (by kernel_rfl) (by kernel_rfl) (by kernel_rfl) (fun _ _ _ h => h) (Or.inl ⟨by rfl, ?_⟩) hHeld ?_
        · intro w' hS'; obtain ⟨t0, t1, t2, t3, t4⟩ := hS'.1.cells; go_simp
        try simp only [Act.put, List.getElem_toArray, List.getElem_cons_zero, List.getElem_cons_succ, List.setIfInBounds_toArray, List.set_cons_zero, List.set_cons_succ]
        refine wpAnyH_take (i := 8) (v := .int .i64 ((pos ns nm : Int))) rfl (by kernel_rfl) (by kernel_rfl) (by kernel_rfl) (fun _ _ _ h => h) (Or.inl ⟨by rfl, ?_⟩) hHeld ?_
        · intro w' hS'; go_simp
        try simp only [Act.put, List.getElem_toArray, List.getElem_cons_zero, List.getElem_cons_succ, List.setIfInBounds_toArray, List.set_cons_zero, List.set_cons_succ]
        refine wpAnyH_take (i := 9) (v := .slice b2 (ks.length - (pos ns nm)) (ck - (pos ns nm))) rfl (by kernel_rfl) (by kernel_rfl) (by kernel_rfl) (fun _ _ _ h => h) (Or.inl ⟨by rfl, ?_⟩) hHeld ?_
        · intro w' hS'; go_simp
        try simp only [Act.put, List.getElem_toArray, List.getElem_cons_zero, List.getElem_cons_succ, List.setIfInBounds_toArray, List.set_cons_zero, List.set_cons_succ]
        refine wpAnyH_ready (rs := [5]) (by kernel_rfl) (by simp) (AllReadyH.cons rfl (fun K hK => ?_) AllReadyH.nil)
        simp only [List.getElem_toArray, List.getElem_cons_zero, List.getElem_cons_succ]
        go_simp
        refine hK.out _ _ ?_ (fun hHeld => ?_)
        · exact ⟨ht5.kept ((Below.refl w5.heap.size w5).alloc (Nat.le_refl _) _).drew (by omega), hk5.kept ((Below.refl w5.heap.size w5).alloc (Nat.le_refl _) _).drew hlt5⟩
        clear hK K
        try simp only [Act.put, List.getElem_toArray, List.getElem_cons_zero, List.getElem_cons_succ, List.setIfInBounds_toArray, List.set_cons_zero, List.set_cons_succ]
        refine wpAnyH_ready (rs := [10]) (by kernel_rfl) (by simp) (AllReadyH.cons rfl (fun K hK => ?_) AllReadyH.nil)
        simp only [List.getElem_toArray, List.getElem_cons_zero, List.getElem_cons_succ]
        go_simp
        refine hK.out _ _ ?_ (fun hHeld => ?_)
        · exact ⟨ht5.kept ((((Below.refl w5.heap.size w5).alloc (Nat.le_refl _) _).alloc (by simp) _).drew) (by omega), hk5.kept ((((Below.refl w5.heap.size w5).alloc (Nat.le_refl _) _).alloc (by simp) _).drew) hlt5⟩
        clear hK K
        try simp only [Act.put, List.getElem_toArray, List.getElem_cons_zero, List.getElem_cons_succ, List.setIfInBounds_toArray, List.set_cons_zero, List.set_cons_succ]
        refine wpAnyH_ready (rs := [11]) (by kernel_rfl) (by simp) (AllReadyH.cons rfl (fun K hK => ?_) AllReadyH.nil)
        simp only [List.getElem_toArray, List.getElem_cons_zero, List.getElem_cons_succ]
        go_simp
        have hbw5 : Below w.heap.size w w5 := (unhide HBS).1.trans ((unhide HN5).2.mono (by omega))
        have hRk : Row lo hi w5 (.slice ak ks.length ck) ks.length Ks.flatten := (unhide HT).2.2.1.below hbw5 hhi
        have hK5 := Lies.all5 (unhide HT).2.2.2.1 (unhide HT).2.2.2.2.1
        have hfl : Ks.flatten.length = ks.length * 5 := by rw [flat5_length Ks hK5, (unhide HT).2.2.2.1]
        have hone : ∀ u ∈ Ks.flatten, u.oneCell' = true := ones_flat (unhide HT).2.2.2.1 (unhide HT).2.2.2.2.1
        have hlen := unhide HLen
        have hsm := (unhide HT).2.2.2.2.2.1.k
        refine (concat24_set lo hi w5.heap.size b1 b2 (pos ns nm) ck (ks.length - (pos ns nm)) (ck - (pos ns nm)) (Ks.flatten.take (pos ns nm * 5)) (Ks.flatten.drop ((pos ns nm) * 5)) j0 j1 f1 f2 f3 g1 h1 g2 h2 g3 h3 w5 rfl (by omega) ((unhide HR1).2.2.1 w5 _ hfl hRk) ((unhide HR1).2.2.2 w5 _ hfl hRk) (by rw [List.length_take, hfl]; omega) (by rw [List.length_drop, hfl]; omega) (fun u h => hone u (List.mem_of_mem_take h)) (fun u h => hone u (List.mem_of_mem_drop h)) (by omega)).mono ?_
        rintro e w6 ⟨aK, cK, rfl, hoK, hb6⟩
        have hs6 := hb6.size
        have hr6 := hr5.kept hb6 (by omega)
        refine hK.out _ _ ⟨ht5.kept hb6 (by omega), hk5.kept hb6 (by omega)⟩ (fun hHeld => ?_)
        clear hK K
        try simp only [Act.put, List.getElem_toArray, List.getElem_cons_zero, List.getElem_cons_succ, List.setIfInBounds_toArray, List.set_cons_zero, List.set_cons_succ]
        refine wpAnyH_take (i := 12) (v := .slice aK (pos ns nm + 1 + (ks.length - (pos ns nm))) cK) rfl (by kernel_rfl) (by kernel_rfl) (by kernel_rfl) (fun _ _ _ h => h) (Or.inl ⟨by rfl, ?_⟩) hHeld ?_
        · intro w' hS'; go_simp
        try simp only [Act.put, List.getElem_toArray, List.getElem_cons_zero, List.getElem_cons_succ, List.setIfInBounds_toArray, List.set_cons_zero, List.set_cons_succ]
        refine wpAnyH_done (by kernel_rfl) ?_ _
        refine NoPanic.normal ?_
        clear hHeld
        have HN6 := hide (And.intro hoK (And.intro hb6 (And.intro hbw5 (And.intro hK5 (And.intro hfl hlen)))))
        clear hoK hb6 hbw5 hK5 hfl hRk hone hlen hsm ht5 hk5 hr5 hcut3 hcut4
        obtain ⟨r0, r1, r2, r3, r4⟩ := hr6.cells
        have rf0 := hr6.fr 0
        have rf1 := hr6.fr 1
        have rf2 := hr6.fr 2
        have rf3 := hr6.fr 3
        have rf4 := hr6.fr 4
        go_wp2_with fail
        rw [unhide HNx] at HS
        rw [unhide HS]
        refine bodyPost_ret (v := .tuple #[.agg #[.int .i64 2, .bool false, .slice none 0 0, .slice aN (pos ns nm + 1 + (ns.length - (pos ns nm))) cN, .slice aK (pos ns nm + 1 + (ks.length - (pos ns nm))) cK], .int .i64 0]) (by simp [results, Tryd.results41, go_sem, r0, r1, r2, r3, r4]) rfl ⟨?_, ?_⟩
        · exact below_set5 ((unhide HN6).2.2.1.trans ((unhide HN6).2.1.mono (by omega))) (by omega) _ _ _ _ _
        refine ⟨[.int .i64 2, .bool false, .slice none 0 0, .slice aN (pos ns nm + 1 + (ns.length - (pos ns nm))) cN, .slice aK (pos ns nm + 1 + (ks.length - (pos ns nm))) cK], rfl, ?_⟩
        rw [set5_eq]
        obtain ⟨hoK, hb6, hbw5, hK5, hfl, hlen⟩ := unhide HN6
        obtain ⟨hoN, hb5⟩ := unhide HN5
        obtain ⟨hX, hn, hk, hl, hKK, hSm, hln, hnk⟩ := unhide HT
        refine laid_end (B' := wK.heap.size) (w4 := w4) hl hKK hhm hmw (Nat.le_refl _) (by omega) (below_set5 (hbw5.trans (hb6.mono (by omega))) (by omega) _ _ _ _ _) (unhide HL') (by rw [set5_size]; omega) (fun k hk1 hk2 => ?_) ?_ ?_
        · rw [set5_other _ _ _ _ _ _ _ _ (by omega), hb6.block k (by omega), hb5.block k (by omega), (unhide HBS).2 k hk1 (by omega)]
        · have e1 : (ns.take (pos ns nm) ++ [nm] ++ ns.drop (pos ns nm)).length = pos ns nm + 1 + (ns.length - (pos ns nm)) := by simp; omega
          have e2 : (ns.take (pos ns nm) ++ [nm] ++ ns.drop (pos ns nm)).map Value.string = (ns.map Value.string).take (pos ns nm) ++ [.string nm] ++ (ns.map Value.string).drop (pos ns nm) := by simp [List.map_take, List.map_drop]
          rw [e1, e2]
          have h0 : Row (w4.heap.size + 1 + 1) w5.heap.size w5 _ _ _ := owns_row hoN (fun g hg => owns_lt hoN g hg)
          exact ((h0.below hb6 (Nat.le_refl _)).same (fun k hk1 hk2 => set5_other _ _ _ _ _ _ _ _ (by omega))).mono (by omega) (by rw [set5_size]; omega)
        · have e1 : (ks.take (pos ns nm) ++ [T'] ++ ks.drop (pos ns nm)).length = pos ns nm + 1 + (ks.length - (pos ns nm)) := by simp; omega
          have e2 : (Ks.take (pos ns nm) ++ ([[.int .i64 j0, .bool j1, .slice f1 g1 h1, .slice f2 g2 h2, .slice f3 g3 h3]] : List (List Value)) ++ Ks.drop (pos ns nm)).flatten = Ks.flatten.take (pos ns nm * 5) ++ [.int .i64 j0, .bool j1, .slice f1 g1 h1, .slice f2 g2 h2, .slice f3 g3 h3] ++ Ks.flatten.drop ((pos ns nm) * 5) := by
            rw [flat5_take Ks hK5, flat5_drop Ks hK5]; simp
          rw [e1, e2]
          have h0 : Row (w5.heap.size + 1 + 1) w6.heap.size w6 _ _ _ := owns_row hoK (fun g hg => owns_lt hoK g hg)
          exact (h0.same (fun k hk1 hk2 => set5_other _ _ _ _ _ _ _ _ (by omega))).mono (by omega) (by rw [set5_size]; omega)
    case true =>
      have hlt := has_lt hh
      have hlk : pos ns nm < ks.length := by rw [unhide HLen]; exact hlt
      have hbA := (unhide HA).2.1
      obtain ⟨gk, ok, eak, hg1, hg2, hcell⟩ := (unhide HT).2.2.1.at (show 0 < ks.length by omega)
      obtain ⟨qk, qb, p1, p2, p3, p4, p5, p6, p7, p8, p9, hLk, u0, u1, u2, u3, u4⟩ := kid_sl (unhide HT).2.2.2.1 hcell (unhide HT).2.2.2.2.1 (pos ns nm) hlk
      clear hcell
      subst eak
      rw [← hbA.cell (p := ⟨gk, _, none⟩) (by show gk < _; omega)] at u0
      rw [← hbA.cell (p := ⟨gk, _, none⟩) (by show gk < _; omega)] at u1
      rw [← hbA.cell (p := ⟨gk, _, none⟩) (by show gk < _; omega)] at u2
      rw [← hbA.cell (p := ⟨gk, _, none⟩) (by show gk < _; omega)] at u3
      rw [← hbA.cell (p := ⟨gk, _, none⟩) (by show gk < _; omega)] at u4
      have HKl : Hid (Lies lo hi ((wA.drewN q).alloc (.cells #[.int .i64 qk, .bool qb, .slice p1 p2 p3, .slice p4 p5 p6, .slice p7 p8 p9] 26)) (kidAt ns ks nm) [.int .i64 qk, .bool qb, .slice p1 p2 p3, .slice p4 p5 p6, .slice p7 p8 p9]) := by
        show Lies _ _ _ _ _
        rw [kidAt_yes hh hlk]
        exact (hLk.kept hbA hhi).kept (((below_drewN (Below.refl wA.heap.size wA) q)).alloc (Nat.le_refl _) _) (by omega)
      have HNx := hide (nextAt_yes hh)
      have hgA : gk < wA.heap.size := by omega
      have hgB : gk < w.heap.size + 1 + 1 + 1 := by omega
      have hgC : gk ≠ w.heap.size + 1 + 1 + 1 := by omega
      have hpb : pos ns nm ≤ 1000000 := by have := (unhide HT).2.2.2.2.2.1.k; omega
      clear hLk hbA
      go_wp2_with fail
      clear u0 u1 u2 u3 u4
      have HI2 := hide (unhide HI (kidAt ns ks nm) [.int .i64 qk, .bool qb, .slice p1 p2 p3, .slice p4 p5 p6, .slice p7 p8 p9] ((wA.drewN q).alloc (.cells #[.int .i64 qk, .bool qb, .slice p1 p2 p3, .slice p4 p5 p6, .slice p7 p8 p9] 26)) (unhide HKl) (((unhide HT).1.kept (unhide HA).2.1 hhi').kept (((below_drewN (Below.refl wA.heap.size wA) q)).alloc (Nat.le_refl _) _) (by omega)) (by simp; omega) (kidAt_nice (unhide HT).2.2.2.2.2.2.2) (kidAt_wt (unhide HT).2.2.2.2.2.1.t))
      obtain ⟨wK, hwK⟩ : ∃ wK, wK = (wA.drewN q).alloc (.cells #[.int .i64 qk, .bool qb, .slice p1 p2 p3, .slice p4 p5 p6, .slice p7 p8 p9] 26) := ⟨_, rfl⟩
      have hbK : Below wA.heap.size wA wK := by rw [hwK]; exact ((below_drewN (Below.refl wA.heap.size wA) q)).alloc (Nat.le_refl _) _
      have hsK : wK.heap.size = wA.heap.size + 1 := by rw [hwK]; simp
      have hkK : Bx wK (w.heap.size + 1 + 1 + 1) (.int .i64 qk) (.bool qb) (.slice p1 p2 p3) (.slice p4 p5 p6) (.slice p7 p8 p9) := by
        rw [hwK]
        have := bx_new (wA.drewN q) (.int .i64 qk) (.bool qb) (.slice p1 p2 p3) (.slice p4 p5 p6) (.slice p7 p8 p9)
        rw [World.heap_drewN, hsA] at this
        exact this
      rw [← hwK] at HI2 ⊢
      clear hwK HKl HI
      refine (unhide HI2).mono ?_
      rintro e w4 ⟨hb4, hans⟩
      clear HI2
      have hs4 := hb4.size
      have hw4 : Below w.heap.size w w4 := ((unhide HA).2.1.trans (hbK.mono (by omega))).trans (hb4.mono (by omega))
      have hr4 := (((unhide HA).2.2.2.2.kept hbK (by omega)).kept hb4 (by omega))
      have hk4 := hkK.kept hb4 (by omega)
      have ht4 := (((unhide HA).2.2.1.kept hbK (by omega)).kept hb4 (by omega))
      cases hlr : laidS (kidAt ns ks nm) r X (deep + 1) with
      | error en =>
        rw [hlr] at hans HS
        have he : e = .returned (.tuple #[.agg zeroT.toArray, .int .i64 (en : Int)]) := hans
        subst he
        have hen : ((en : Int) == 0) = false := by
          rw [beq_eq_false_iff_ne]; have := laidS_err hlr; omega
        obtain ⟨z0, z1, z2, z3, z4⟩ := hk4.cells
        have zf0 := hk4.fr 0
        have zf1 := hk4.fr 1
        have zf2 := hk4.fr 2
        have zf3 := hk4.fr 3
        have zf4 := hk4.fr 4
        obtain ⟨r0, r1, r2, r3, r4⟩ := hr4.cells
        have rf0 := hr4.fr 0
        have rf1 := hr4.fr 1
        have rf2 := hr4.fr 2
        have rf3 := hr4.fr 3
        have rf4 := hr4.fr 4
        have HB4 := hide hw4
        clear hw4 hr4 hk4 ht4 hb4 hbK hans hlr hkK
        unfold zeroT
        go_wp2_with fail
        rw [unhide HS]
        refine bodyPost_ret (v := .tuple #[.agg zeroT.toArray, .int .i64 (en : Int)]) (by simp [results, Tryd.results41, go_sem, zeroT, r0, r1, r2, r3, r4]) rfl ⟨?_, rfl⟩
        exact below_set5 (below_set5 (unhide HB4) (by omega) _ _ _ _ _) (by omega) _ _ _ _ _
      | ok T' =>
        rw [hlr] at hans HS
        obtain ⟨cs', rfl, hL'⟩ : ∃ cs : List Value, e = .returned (.tuple #[.agg cs.toArray, .int .i64 0]) ∧ Lays m wK.heap.size w4 T' cs := hans
        obtain ⟨j0, j1, f1, g1, h1, f2, g2, h2, f3, g3, h3, rfl⟩ := hL'.lies.form
        obtain ⟨z0, z1, z2, z3, z4⟩ := hk4.cells
        have zf0 := hk4.fr 0
        have zf1 := hk4.fr 1
        have zf2 := hk4.fr 2
        have zf3 := hk4.fr 3
        have zf4 := hk4.fr 4
        have HL' := hide hL'
        have HB4 := hide (And.intro hw4 (And.intro hr4 (And.intro ht4 (And.intro hs4 hk4))))
        clear hw4 hr4 ht4 hb4 hbK hlr hL' hkK hk4
        go_wp2_with fail
        rw [set5_eq]
        obtain ⟨wS, hwS⟩ : ∃ wS, wS = set5 w4 (w.heap.size + 1 + 1 + 1) (.int .i64 j0) (.bool j1) (.slice f1 g1 h1) (.slice f2 g2 h2) (.slice f3 g3 h3) := ⟨_, rfl⟩
        have hsS : wS.heap.size = w4.heap.size := by rw [hwS]; simp
        have htS := (unhide HB4).2.2.1.of (show wS.heap[w.heap.size]? = w4.heap[w.heap.size]? by rw [hwS]; exact set5_other _ _ _ _ _ _ _ _ (by omega))
        have hkS : Bx wS (w.heap.size + 1 + 1 + 1) (.int .i64 j0) (.bool j1) (.slice f1 g1 h1) (.slice f2 g2 h2) (.slice f3 g3 h3) := by rw [hwS]; exact (unhide HB4).2.2.2.2.set5 _ _ _ _ _
        have hrS := (unhide HB4).2.1.of (show wS.heap[w.heap.size + 1 + 1]? = w4.heap[w.heap.size + 1 + 1]? by rw [hwS]; exact set5_other _ _ _ _ _ _ _ _ (by omega))
        have HBS : Hid (Below w.heap.size w wS ∧ ∀ k, k < w4.heap.size → k < m ∨ w.heap.size + 1 + 1 + 1 + 1 ≤ k → wS.heap[k]? = w4.heap[k]?) := by
          refine ⟨by rw [hwS]; exact below_set5 (unhide HB4).1 (by omega) _ _ _ _ _, fun k h1 h2 => ?_⟩
          rw [hwS]; exact set5_other _ _ _ _ _ _ _ _ (by omega)
        rw [← hwS]
        have HwS := hide hwS
        clear hwS z0 z1 z2 z3 z4 zf0 zf1 zf2 zf3 zf4
        obtain ⟨t0, t1, t2, t3, t4⟩ := htS.cells
        obtain ⟨a1, hcut1, hrow1⟩ := cut_hi23 lo hi an ns.length cn (pos ns nm) hcn hple
        obtain ⟨a2, hcut2, hrow2⟩ := cut_lo23 lo hi an ns.length cn (pos ns nm + 1) hcn (by omega)
        obtain ⟨b1, hcut3, hrow3⟩ := cut_hi24 lo hi (some ⟨gk, ok, none⟩) ks.length ck (pos ns nm) hck (by have := unhide HLen; omega)
        obtain ⟨b2, hcut4, hrow4⟩ := cut_lo24 lo hi (some ⟨gk, ok, none⟩) ks.length ck (pos ns nm + 1) hck (by have := unhide HLen; omega)
        have HR1 := hide (And.intro hrow1 (And.intro hrow2 (And.intro hrow3 hrow4)))
        clear hrow1 hrow2 hrow3 hrow4
        have hpush : ((pos ns nm + 1 : Nat) : Int) = (pos ns nm : Int) + 1 := by omega
        rw [hpush] at hcut2 hcut4
        clear hpush
        have hlS : w.heap.size < wS.heap.size := by omega
        refine wp_region_noPanic ?_
        refine wp_region_held_drew (S := fun w' => w'.cell? ⟨w.heap.size, 3, none⟩ = some (.slice an ns.length cn)) (by kernel_rfl) t3 (fun hHeld => ?_)
        refine wpAnyH_take (i := 0) (v := .pointer (some ⟨w.heap.size, 3, none⟩)) rfl (by kernel_rfl) (by kernel_rfl) (by kernel_rfl) (fun _ _ _ h => h) (Or.inl ⟨by rfl, ?_⟩) hHeld ?_
        · intro w' hS'; go_simp
        try simp only [Act.put, List.getElem_toArray, List.getElem_cons_zero, List.getElem_cons_succ, List.setIfInBounds_toArray, List.set_cons_zero, List.set_cons_succ]
        refine wpAnyH_take (i := 1) (v := .slice an ns.length cn) rfl (by kernel_rfl) (by kernel_rfl) (by kernel_rfl) (fun _ _ _ h => h) (Or.inl ⟨by rfl, ?_⟩) hHeld ?_
        · intro w' hS'; go_simp
        try simp only [Act.put, List.getElem_toArray, List.getElem_cons_zero, List.getElem_cons_succ, List.setIfInBounds_toArray, List.set_cons_zero, List.set_cons_succ]
        refine wpAnyH_take (i := 2) (v := .int .i64 (pos ns nm : Int)) rfl (by kernel_rfl) (by kernel_rfl) (by kernel_rfl) (fun _ _ _ h => h) (Or.inl ⟨by rfl, ?_⟩) hHeld ?_
        · intro w' hS'; go_simp
        try simp only [Act.put, List.getElem_toArray, List.getElem_cons_zero, List.getElem_cons_succ, List.setIfInBounds_toArray, List.set_cons_zero, List.set_cons_succ]
        refine wpAnyH_take (i := 3) (v := .slice a1 (pos ns nm) cn) rfl (by kernel_rfl) (by kernel_rfl) (by kernel_rfl) (fun _ _ _ h => h) (Or.inl ⟨by rfl, ?_⟩) hHeld ?_
        · intro w' hS'; go_simp
        try simp only [Act.put, List.getElem_toArray, List.getElem_cons_zero, List.getElem_cons_succ, List.setIfInBounds_toArray, List.set_cons_zero, List.set_cons_succ]
        refine wpAnyH_take (i := 4) (v := .string nm) rfl (by kernel_rfl) (by kernel_rfl) (by kernel_rfl) (fun _ _ _ h => h) (Or.inl ⟨by rfl, ?_⟩) hHeld ?_
        · intro w' hS'; go_simp
        try simp only [Act.put, List.getElem_toArray, List.getElem_cons_zero, List.getElem_cons_succ, List.setIfInBounds_toArray, List.set_cons_zero, List.set_cons_succ]
        refine wpAnyH_take (i := 6) (v := .pointer (some ⟨w.heap.size, 3, none⟩)) rfl (by kernel_rfl) (by kernel_rfl) (by kernel_rfl) (fun _ _ _ h => h) (Or.inl ⟨by rfl, ?_⟩) hHeld ?_
        · intro w' hS'; go_simp
        try simp only [Act.put, List.getElem_toArray, List.getElem_cons_zero, List.getElem_cons_succ, List.setIfInBounds_toArray, List.set_cons_zero, List.set_cons_succ]
        refine wpAnyH_take (i := 7) (v := .slice an ns.length cn) rfl (by kernel_rfl) (by kernel_rfl) (by kernel_rfl) (fun _ _ _ h => h) (Or.inl ⟨by rfl, ?_⟩) hHeld ?_
        · intro w' hS'; go_simp
        try simp only [Act.put, List.getElem_toArray, List.getElem_cons_zero, List.getElem_cons_succ, List.setIfInBounds_toArray, List.set_cons_zero, List.set_cons_succ]
        refine wpAnyH_take (i := 8) (v := .int .i64 ((pos ns nm : Int) + 1)) rfl (by kernel_rfl) (by kernel_rfl) (by kernel_rfl) (fun _ _ _ h => h) (Or.inl ⟨by rfl, ?_⟩) hHeld ?_
        · intro w' hS'; go_simp
        try simp only [Act.put, List.getElem_toArray, List.getElem_cons_zero, List.getElem_cons_succ, List.setIfInBounds_toArray, List.set_cons_zero, List.set_cons_succ]
        refine wpAnyH_take (i := 9) (v := .slice a2 (ns.length - (pos ns nm + 1)) (cn - (pos ns nm + 1))) rfl (by kernel_rfl) (by kernel_rfl) (by kernel_rfl) (fun _ _ _ h => h) (Or.inl ⟨by rfl, ?_⟩) hHeld ?_
        · intro w' hS'; go_simp
        try simp only [Act.put, List.getElem_toArray, List.getElem_cons_zero, List.getElem_cons_succ, List.setIfInBounds_toArray, List.set_cons_zero, List.set_cons_succ]
        refine wpAnyH_ready (rs := [5]) (by kernel_rfl) (by simp) (AllReadyH.cons rfl (fun K hK => ?_) AllReadyH.nil)
        simp only [List.getElem_toArray, List.getElem_cons_zero, List.getElem_cons_succ]
        go_simp
        refine hK.out _ _ ?_ (fun hHeld => ?_)
        · exact (((Below.refl wS.heap.size wS).alloc (Nat.le_refl _) _).drew.cell (p := ⟨w.heap.size, 3, none⟩) hlS).trans t3
        clear hK K
        try simp only [Act.put, List.getElem_toArray, List.getElem_cons_zero, List.getElem_cons_succ, List.setIfInBounds_toArray, List.set_cons_zero, List.set_cons_succ]
        refine wpAnyH_ready (rs := [10]) (by kernel_rfl) (by simp) (AllReadyH.cons rfl (fun K hK => ?_) AllReadyH.nil)
        simp only [List.getElem_toArray, List.getElem_cons_zero, List.getElem_cons_succ]
        go_simp
        refine hK.out _ _ ?_ (fun hHeld => ?_)
        · exact (((((Below.refl wS.heap.size wS).alloc (Nat.le_refl _) _).drew.alloc (by simp) _).drew).cell (p := ⟨w.heap.size, 3, none⟩) hlS).trans t3
        clear hK K
        try simp only [Act.put, List.getElem_toArray, List.getElem_cons_zero, List.getElem_cons_succ, List.setIfInBounds_toArray, List.set_cons_zero, List.set_cons_succ]
        refine wpAnyH_ready (rs := [11]) (by kernel_rfl) (by simp) (AllReadyH.cons rfl (fun K hK => ?_) AllReadyH.nil)
        simp only [List.getElem_toArray, List.getElem_cons_zero, List.getElem_cons_succ]
        go_simp
        have hRn : Row lo hi wS (.slice an ns.length cn) ns.length (ns.map .string) := (unhide HT).2.1.below (unhide HBS).1 hhi
        refine (concat23_set lo hi w4.heap.size a1 a2 (pos ns nm) cn (ns.length - (pos ns nm + 1)) (cn - (pos ns nm + 1)) ((ns.map Value.string).take (pos ns nm)) ((ns.map Value.string).drop (pos ns nm + 1)) nm wS hsS (by omega) ((unhide HR1).1 wS _ (by simp) hRn) ((unhide HR1).2.1 wS _ (by simp) hRn) (by simp; omega) (by simp) (one_strsL _ _ (fun u h => List.mem_of_mem_take h)) (one_strsL _ _ (fun u h => List.mem_of_mem_drop h)) (by have := (unhide HT).2.2.2.2.2.1.n; omega)).mono ?_
        rintro e w5 ⟨aN, cN, rfl, hoN, hb5⟩
        have hs5 := hb5.size
        have hlt5 : w.heap.size + 1 + 1 + 1 < w5.heap.size := by omega
        have ht5 := htS.kept hb5 (by omega)
        have hk5 := hkS.kept hb5 (by omega)
        have hr5 := hrS.kept hb5 (by omega)
        refine hK.out _ _ ht5.cells.2.2.2.1 (fun hHeld => ?_)
        clear hK K
        try simp only [Act.put, List.getElem_toArray, List.getElem_cons_zero, List.getElem_cons_succ, List.setIfInBounds_toArray, List.set_cons_zero, List.set_cons_succ]
        refine wpAnyH_take (i := 12) (v := .slice aN (pos ns nm + 1 + (ns.length - (pos ns nm + 1))) cN) rfl (by kernel_rfl) (by kernel_rfl) (by kernel_rfl) (fun _ _ _ h => h) (Or.inl ⟨by rfl, ?_⟩) hHeld ?_
        · intro w' hS'; go_simp
        try simp only [Act.put, List.getElem_toArray, List.getElem_cons_zero, List.getElem_cons_succ, List.setIfInBounds_toArray, List.set_cons_zero, List.set_cons_succ]
        refine wpAnyH_done (by kernel_rfl) ?_ _
        refine NoPanic.normal ?_
        clear hHeld
        have HN5 := hide (And.intro hoN hb5)
        clear hoN hb5 t0 t1 t2 t3 t4 hRn htS hkS hrS hcut1 hcut2
        go_wp2_with fail
        obtain ⟨t0, t1, t2, t3, t4⟩ := ht5.cells
        obtain ⟨k0, k1, k2, k3, k4⟩ := hk5.cells
        refine wp_region_noPanic ?_
        refine wp_region_held_drew (S := fun w' => Bx w' w.heap.size (.int .i64 2) (.bool x) (.slice ad d.size cd) (.slice an ns.length cn) (.slice (some ⟨gk, ok, none⟩) ks.length ck) ∧ Bx w' (w.heap.size + 1 + 1 + 1) (.int .i64 j0) (.bool j1) (.slice f1 g1 h1) (.slice f2 g2 h2) (.slice f3 g3 h3)) (by kernel_rfl) ⟨ht5, hk5⟩ (fun hHeld => ?_)
        clear t0 t1 t2 t3 t4 k0 k1 k2 k3 k4
        refine wpAnyH_take (i := 0) (v := .pointer (some ⟨w.heap.size, 4, none⟩)) rfl (by kernel_rfl) (by kernel_rfl) (by kernel_rfl) (fun _ _ _ h => h) (Or.inl ⟨by rfl, ?_⟩) hHeld ?_
        · intro w' hS'; go_simp
        try simp only [Act.put, List.getElem_toArray, List.getElem_cons_zero, List.getElem_cons_succ, List.setIfInBounds_toArray, List.set_cons_zero, List.set_cons_succ]
        refine wpAnyH_take (i := 1) (v := .slice (some ⟨gk, ok, none⟩) ks.length ck) rfl (by kernel_rfl) (by kernel_rfl) (by kernel_rfl) (fun _ _ _ h => h) (Or.inl ⟨by rfl, ?_⟩) hHeld ?_
        · intro w' hS'; obtain ⟨t0, t1, t2, t3, t4⟩ := hS'.1.cells; go_simp
        try simp only [Act.put, List.getElem_toArray, List.getElem_cons_zero, List.getElem_cons_succ, List.setIfInBounds_toArray, List.set_cons_zero, List.set_cons_succ]
        refine wpAnyH_take (i := 2) (v := .int .i64 (pos ns nm : Int)) rfl (by kernel_rfl) (by kernel_rfl) (by kernel_rfl) (fun _ _ _ h => h) (Or.inl ⟨by rfl, ?_⟩) hHeld ?_
        · intro w' hS'; go_simp
        try simp only [Act.put, List.getElem_toArray, List.getElem_cons_zero, List.getElem_cons_succ, List.setIfInBounds_toArray, List.set_cons_zero, List.set_cons_succ]
        refine wpAnyH_take (i := 3) (v := .slice b1 (pos ns nm) ck) rfl (by kernel_rfl) (by kernel_rfl) (by kernel_rfl) (fun _ _ _ h => h) (Or.inl ⟨by rfl, ?_⟩) hHeld ?_
        · intro w' hS'; go_simp
        try simp only [Act.put, List.getElem_toArray, List.getElem_cons_zero, List.getElem_cons_succ, List.setIfInBounds_toArray, List.set_cons_zero, List.set_cons_succ]
        refine wpAnyH_take (i := 4) (v := .agg #[.int .i64 j0, .bool j1, .slice f1 g1 h1, .slice f2 g2 h2, .slice f3 g3 h3]) rfl (by kernel_rfl) (by kernel_rfl) (by kernel_rfl) (fun _ _ _ h => h) (Or.inl ⟨by rfl, ?_⟩) hHeld ?_
        · intro w' hS'; obtain ⟨k0, k1, k2, k3, k4⟩ := hS'.2.cells; go_simp
        try simp only [Act.put, List.getElem_toArray, List.getElem_cons_zero, List.getElem_cons_succ, List.setIfInBounds_toArray, List.set_cons_zero, List.set_cons_succ]
        refine wpAnyH_take (i := 6) (v := .pointer (some ⟨w.heap.size, 4, none⟩)) rfl (by kernel_rfl) (by kernel_rfl) (by kernel_rfl) (fun _ _ _ h => h) (Or.inl ⟨by rfl, ?_⟩) hHeld ?_
        · intro w' hS'; go_simp
        try simp only [Act.put, List.getElem_toArray, List.getElem_cons_zero, List.getElem_cons_succ, List.setIfInBounds_toArray, List.set_cons_zero, List.set_cons_succ]
        refine wpAnyH_take (i := 7) (v := .slice (some ⟨gk, ok, none⟩) ks.length ck) rfl (by kernel_rfl) (by kernel_rfl) (by kernel_rfl) (fun _ _ _ h => h) (Or.inl ⟨by rfl, ?_⟩) hHeld ?_
        · intro w' hS'; obtain ⟨t0, t1, t2, t3, t4⟩ := hS'.1.cells; go_simp
        try simp only [Act.put, List.getElem_toArray, List.getElem_cons_zero, List.getElem_cons_succ, List.setIfInBounds_toArray, List.set_cons_zero, List.set_cons_succ]
        refine wpAnyH_take (i := 8) (v := .int .i64 ((pos ns nm : Int) + 1)) rfl (by kernel_rfl) (by kernel_rfl) (by kernel_rfl) (fun _ _ _ h => h) (Or.inl ⟨by rfl, ?_⟩) hHeld ?_
        · intro w' hS'; go_simp
        try simp only [Act.put, List.getElem_toArray, List.getElem_cons_zero, List.getElem_cons_succ, List.setIfInBounds_toArray, List.set_cons_zero, List.set_cons_succ]
        refine wpAnyH_take (i := 9) (v := .slice b2 (ks.length - (pos ns nm + 1)) (ck - (pos ns nm + 1))) rfl (by kernel_rfl) (by kernel_rfl) (by kernel_rfl) (fun _ _ _ h => h) (Or.inl ⟨by rfl, ?_⟩) hHeld ?_
        · intro w' hS'; go_simp
        try simp only [Act.put, List.getElem_toArray, List.getElem_cons_zero, List.getElem_cons_succ, List.setIfInBounds_toArray, List.set_cons_zero, List.set_cons_succ]
        refine wpAnyH_ready (rs := [5]) (by kernel_rfl) (by simp) (AllReadyH.cons rfl (fun K hK => ?_) AllReadyH.nil)
        simp only [List.getElem_toArray, List.getElem_cons_zero, List.getElem_cons_succ]
        go_simp
        refine hK.out _ _ ?_ (fun hHeld => ?_)
        · exact ⟨ht5.kept ((Below.refl w5.heap.size w5).alloc (Nat.le_refl _) _).drew (by omega), hk5.kept ((Below.refl w5.heap.size w5).alloc (Nat.le_refl _) _).drew hlt5⟩
        clear hK K
        try simp only [Act.put, List.getElem_toArray, List.getElem_cons_zero, List.getElem_cons_succ, List.setIfInBounds_toArray, List.set_cons_zero, List.set_cons_succ]
        refine wpAnyH_ready (rs := [10]) (by kernel_rfl) (by simp) (AllReadyH.cons rfl (fun K hK => ?_) AllReadyH.nil)
        simp only [List.getElem_toArray, List.getElem_cons_zero, List.getElem_cons_succ]
        go_simp
        refine hK.out _ _ ?_ (fun hHeld => ?_)
        · exact ⟨ht5.kept ((((Below.refl w5.heap.size w5).alloc (Nat.le_refl _) _).alloc (by simp) _).drew) (by omega), hk5.kept ((((Below.refl w5.heap.size w5).alloc (Nat.le_refl _) _).alloc (by simp) _).drew) hlt5⟩
        clear hK K
        try simp only [Act.put, List.getElem_toArray, List.getElem_cons_zero, List.getElem_cons_succ, List.setIfInBounds_toArray, List.set_cons_zero, List.set_cons_succ]
        refine wpAnyH_ready (rs := [11]) (by kernel_rfl) (by simp) (AllReadyH.cons rfl (fun K hK => ?_) AllReadyH.nil)
        simp only [List.getElem_toArray, List.getElem_cons_zero, List.getElem_cons_succ]
        go_simp
        have hbw5 : Below w.heap.size w w5 := (unhide HBS).1.trans ((unhide HN5).2.mono (by omega))
        have hRk : Row lo hi w5 (.slice (some ⟨gk, ok, none⟩) ks.length ck) ks.length Ks.flatten := (unhide HT).2.2.1.below hbw5 hhi
        have hK5 := Lies.all5 (unhide HT).2.2.2.1 (unhide HT).2.2.2.2.1
        have hfl : Ks.flatten.length = ks.length * 5 := by rw [flat5_length Ks hK5, (unhide HT).2.2.2.1]
        have hone : ∀ u ∈ Ks.flatten, u.oneCell' = true := ones_flat (unhide HT).2.2.2.1 (unhide HT).2.2.2.2.1
        have hlen := unhide HLen
        have hsm := (unhide HT).2.2.2.2.2.1.k
        refine (concat24_set lo hi w5.heap.size b1 b2 (pos ns nm) ck (ks.length - (pos ns nm + 1)) (ck - (pos ns nm + 1)) (Ks.flatten.take (pos ns nm * 5)) (Ks.flatten.drop ((pos ns nm + 1) * 5)) j0 j1 f1 f2 f3 g1 h1 g2 h2 g3 h3 w5 rfl (by omega) ((unhide HR1).2.2.1 w5 _ hfl hRk) ((unhide HR1).2.2.2 w5 _ hfl hRk) (by rw [List.length_take, hfl]; omega) (by rw [List.length_drop, hfl]; omega) (fun u h => hone u (List.mem_of_mem_take h)) (fun u h => hone u (List.mem_of_mem_drop h)) (by omega)).mono ?_
        rintro e w6 ⟨aK, cK, rfl, hoK, hb6⟩
        have hs6 := hb6.size
        have hr6 := hr5.kept hb6 (by omega)
        refine hK.out _ _ ⟨ht5.kept hb6 (by omega), hk5.kept hb6 (by omega)⟩ (fun hHeld => ?_)
        clear hK K
        try simp only [Act.put, List.getElem_toArray, List.getElem_cons_zero, List.getElem_cons_succ, List.setIfInBounds_toArray, List.set_cons_zero, List.set_cons_succ]
        refine wpAnyH_take (i := 12) (v := .slice aK (pos ns nm + 1 + (ks.length - (pos ns nm + 1))) cK) rfl (by kernel_rfl) (by kernel_rfl) (by kernel_rfl) (fun _ _ _ h => h) (Or.inl ⟨by rfl, ?_⟩) hHeld ?_
        · intro w' hS'; go_simp
        try simp only [Act.put, List.getElem_toArray, List.getElem_cons_zero, List.getElem_cons_succ, List.setIfInBounds_toArray, List.set_cons_zero, List.set_cons_succ]
        refine wpAnyH_done (by kernel_rfl) ?_ _
        refine NoPanic.normal ?_
        clear hHeld
        have HN6 := hide (And.intro hoK (And.intro hb6 (And.intro hbw5 (And.intro hK5 (And.intro hfl hlen)))))
        clear hoK hb6 hbw5 hK5 hfl hRk hone hlen hsm ht5 hk5 hr5 hcut3 hcut4
        obtain ⟨r0, r1, r2, r3, r4⟩ := hr6.cells
        have rf0 := hr6.fr 0
        have rf1 := hr6.fr 1
        have rf2 := hr6.fr 2
        have rf3 := hr6.fr 3
        have rf4 := hr6.fr 4
        go_wp2_with fail
        rw [unhide HNx] at HS
        rw [unhide HS]
        refine bodyPost_ret (v := .tuple #[.agg #[.int .i64 2, .bool false, .slice none 0 0, .slice aN (pos ns nm + 1 + (ns.length - (pos ns nm + 1))) cN, .slice aK (pos ns nm + 1 + (ks.length - (pos ns nm + 1))) cK], .int .i64 0]) (by simp [results, Tryd.results41, go_sem, r0, r1, r2, r3, r4]) rfl ⟨?_, ?_⟩
        · exact below_set5 ((unhide HN6).2.2.1.trans ((unhide HN6).2.1.mono (by omega))) (by omega) _ _ _ _ _
        refine ⟨[.int .i64 2, .bool false, .slice none 0 0, .slice aN (pos ns nm + 1 + (ns.length - (pos ns nm + 1))) cN, .slice aK (pos ns nm + 1 + (ks.length - (pos ns nm + 1))) cK], rfl, ?_⟩
        rw [set5_eq]
        obtain ⟨hoK, hb6, hbw5, hK5, hfl, hlen⟩ := unhide HN6
        obtain ⟨hoN, hb5⟩ := unhide HN5
        obtain ⟨hX, hn, hk, hl, hKK, hSm, hln, hnk⟩ := unhide HT
        refine laid_end (B' := wK.heap.size) (w4 := w4) hl hKK hhm hmw (Nat.le_refl _) (by omega) (below_set5 (hbw5.trans (hb6.mono (by omega))) (by omega) _ _ _ _ _) (unhide HL') (by rw [set5_size]; omega) (fun k hk1 hk2 => ?_) ?_ ?_
        · rw [set5_other _ _ _ _ _ _ _ _ (by omega), hb6.block k (by omega), hb5.block k (by omega), (unhide HBS).2 k hk1 (by omega)]
        · have e1 : (ns.take (pos ns nm) ++ [nm] ++ ns.drop (pos ns nm + 1)).length = pos ns nm + 1 + (ns.length - (pos ns nm + 1)) := by simp; omega
          have e2 : (ns.take (pos ns nm) ++ [nm] ++ ns.drop (pos ns nm + 1)).map Value.string = (ns.map Value.string).take (pos ns nm) ++ [.string nm] ++ (ns.map Value.string).drop (pos ns nm + 1) := by simp [List.map_take, List.map_drop]
          rw [e1, e2]
          have h0 : Row (w4.heap.size + 1 + 1) w5.heap.size w5 _ _ _ := owns_row hoN (fun g hg => owns_lt hoN g hg)
          exact ((h0.below hb6 (Nat.le_refl _)).same (fun k hk1 hk2 => set5_other _ _ _ _ _ _ _ _ (by omega))).mono (by omega) (by rw [set5_size]; omega)
        · have e1 : (ks.take (pos ns nm) ++ [T'] ++ ks.drop (pos ns nm + 1)).length = pos ns nm + 1 + (ks.length - (pos ns nm + 1)) := by simp; omega
          have e2 : (Ks.take (pos ns nm) ++ ([[.int .i64 j0, .bool j1, .slice f1 g1 h1, .slice f2 g2 h2, .slice f3 g3 h3]] : List (List Value)) ++ Ks.drop (pos ns nm + 1)).flatten = Ks.flatten.take (pos ns nm * 5) ++ [.int .i64 j0, .bool j1, .slice f1 g1 h1, .slice f2 g2 h2, .slice f3 g3 h3] ++ Ks.flatten.drop ((pos ns nm + 1) * 5) := by
            rw [flat5_take Ks hK5, flat5_drop Ks hK5]; simp
          rw [e1, e2]
          have h0 : Row (w5.heap.size + 1 + 1) w6.heap.size w6 _ _ _ := owns_row hoK (fun g hg => owns_lt hoK g hg)
          exact (h0.same (fun k hk1 hk2 => set5_other _ _ _ _ _ _ _ _ (by omega))).mono (by omega) (by rw [set5_size]; omega)

end Go.Proofs.YthfjofmfiklegaaDoor
/- Put, in the code. -/
namespace Go.Proofs.YthfjofmfiklegaaDoor
open Go.RowKit
/-- What Put answers. -/
def PutA (B : Nat) (r : Except Nat Tr) (e : Ending) (w' : World) : Prop := match r with
  | .error n => e = .returned (.tuple #[.agg zeroT.toArray, .int .i64 (n : Int)])
  | .ok W => ∃ cs : List Value, e = .returned (.tuple #[.agg cs.toArray, .int .i64 0]) ∧ Own w' B w'.heap.size W cs
/-- The three boxes. -/
structure Box3 (w W : World) (t0 t1 t2 t3 t4 x0 x1 x2 x3 x4 : Value) : Prop where
  b : Below w.heap.size w W
  s : w.heap.size + 1 + 1 + 1 ≤ W.heap.size
  t : Bx W w.heap.size t0 t1 t2 t3 t4
  x : Bx W (w.heap.size + 1) x0 x1 x2 x3 x4
  r : Bx W (w.heap.size + 1 + 1) (.int .i64 0) (.bool false) (.slice none 0 0) (.slice none 0 0) (.slice none 0 0)
theorem Box3.kept {w W W' : World} {t0 t1 t2 t3 t4 x0 x1 x2 x3 x4 : Value} (h : Box3 w W t0 t1 t2 t3 t4 x0 x1 x2 x3 x4) {B : Nat} (hb : Below B W W') (hB : w.heap.size + 1 + 1 + 1 ≤ B) : Box3 w W' t0 t1 t2 t3 t4 x0 x1 x2 x3 x4 :=
  ⟨h.b.trans (hb.mono (by omega)), by have := h.s; have := hb.size; omega, h.t.kept hb (by omega), h.x.kept hb (by omega), h.r.kept hb (by omega)⟩
theorem box3_new (w : World) (t0 t1 t2 t3 t4 x0 x1 x2 x3 x4 : Value) : Box3 w (((w.alloc (.cells #[t0, t1, t2, t3, t4] 26)).alloc (.cells #[x0, x1, x2, x3, x4] 26)).alloc (.cells #[.int .i64 0, .bool false, .slice none 0 0, .slice none 0 0, .slice none 0 0] 26)) t0 t1 t2 t3 t4 x0 x1 x2 x3 x4 := by
  refine ⟨(((Below.refl _ _).alloc (Nat.le_refl _) _).alloc (by simp) _).alloc (by simp; omega) _, by simp, ?_, ?_, ?_⟩
  · exact (bx_new w _ _ _ _ _).kept (((Below.refl (w.heap.size + 1) _).alloc (by simp) _).alloc (by simp) _) (by omega)
  · have := (bx_new (w.alloc (.cells #[t0, t1, t2, t3, t4] 26)) x0 x1 x2 x3 x4).kept ((Below.refl (w.heap.size + 1 + 1) _).alloc (by simp) (.cells #[.int .i64 0, .bool false, .slice none 0 0, .slice none 0 0, .slice none 0 0] 26)) (by simp)
    simpa using this
  · have := bx_new ((w.alloc (.cells #[t0, t1, t2, t3, t4] 26)).alloc (.cells #[x0, x1, x2, x3, x4] 26)) (.int .i64 0) (.bool false) (.slice none 0 0) (.slice none 0 0) (.slice none 0 0)
    simpa using this
theorem ne0 {n : Nat} (h : ¬ n = 0) : (((n : Nat) : Int) == 0) = false := by rw [beq_eq_false_iff_ne]; omega
set_option maxRecDepth 20000 in
set_option maxHeartbeats 2000000 in
theorem put_any (T X : Tr) (s : ByteArray) (lo hi lo' hi' : Nat) (cs cx : List Value) (w : World) (hL : Lies lo hi w T cs) (hX : Lies lo' hi' w X cx) (hhi : hi ≤ w.heap.size) (hhi' : hi' ≤ w.heap.size) (hW : wt T ≤ 40000) (hWX : wt X ≤ 40000) (hsz : s.size ≤ 1000000) :
    Calls Tryd.prog 25 #[.agg cs.toArray, .string s, .agg cx.toArray] w fun e w' => Below w.heap.size w w' ∧ PutA w.heap.size (putS T s X) e w' := by
  obtain ⟨kt, xt, at0, nt, ct, bt, mt, dt, et, pt, qt, rfl⟩ := hL.form
  obtain ⟨kx, xx, ax, nx, cxx, bx, mx, dx, ex, px, qx, rfl⟩ := hX.form
  have HT := hide (And.intro hL hX)
  have HC1 := hide (fun W (h : Below w.heap.size w W) => check_any T lo hi _ W (hL.kept h hhi) (by omega) (by have := h.size; omega))
  have HC2 := hide (fun W (h : Below w.heap.size w W) => check_any X lo' hi' _ W (hX.kept h hhi') (by omega) (by have := h.size; omega))
  have HP := hide (fun W => isPlace_any s W hsz)
  have HLa := hide (fun (W : World) (h : Below w.heap.size w W) (hn : Nice T) (hp : isPl s = true) => laid_any w.heap.size (placeL s) T X lo hi lo' hi' 1 _ _ W (hL.kept h hhi) (hX.kept h hhi') hhi hhi' h.size hn (by omega) (isPl_ent hp) (by rw [placeL_join]; exact hsz) (by omega))
  rw [placeL_join] at HLa
  have HS : Hid (putS T s X = if (chk T 1 0).1 ≠ 0 then .error (chk T 1 0).1 else if (chk X 1 0).1 ≠ 0 then .error (chk X 1 0).1 else if isPl s = false then .error 9 else
    match laidS T (placeL s) X 1 with
    | .error e => .error e
    | .ok W => if (chk W 1 0).1 ≠ 0 then .error (chk W 1 0).1 else .ok W) := rfl
  have HW := hide (And.intro hW hWX)
  have hB := box3_new w (.int .i64 kt) (.bool xt) (.slice at0 nt ct) (.slice bt mt dt) (.slice et pt qt) (.int .i64 kx) (.bool xx) (.slice ax nx cxx) (.slice bx mx dx) (.slice ex px qx)
  obtain ⟨wA, hwA⟩ : ∃ wA, wA = (((w.alloc (.cells #[.int .i64 kt, .bool xt, .slice at0 nt ct, .slice bt mt dt, .slice et pt qt] 26)).alloc (.cells #[.int .i64 kx, .bool xx, .slice ax nx cxx, .slice bx mx dx, .slice ex px qx] 26)).alloc (.cells #[.int .i64 0, .bool false, .slice none 0 0, .slice none 0 0, .slice none 0 0] 26)) := ⟨_, rfl⟩
  rw [← hwA] at hB
  have HB := hide hB
  have HwA := hide hwA
  clear hL hX hW hWX hsz hB hwA
  go_enter Tryd.func25, Tryd.ntmps25
  go_wp2_with fail
  rw [← unhide HwA]
  refine (unhide HC1 wA (unhide HB).b).mono ?_
  rintro e w1 ⟨rfl, hb1⟩
  have HB1 := hide ((unhide HB).kept hb1 (unhide HB).s)
  clear HC1 HB HwA hb1
  by_cases hc1 : (chk T 1 0).1 = 0
  case neg =>
    have hn1 := ne0 hc1
    have HSr : Hid (putS T s X = .error (chk T 1 0).1) := by show _ = _; rw [unhide HS, if_pos hc1]
    obtain ⟨r0, r1, r2, r3, r4⟩ := (unhide HB1).r.cells
    have rf0 := (unhide HB1).r.fr 0
    have rf1 := (unhide HB1).r.fr 1
    have rf2 := (unhide HB1).r.fr 2
    have rf3 := (unhide HB1).r.fr 3
    have rf4 := (unhide HB1).r.fr 4
    clear hc1
    generalize (chk T 1 0).1 = c1 at *
    go_wp2_with fail
    rw [unhide HSr]
    refine bodyPost_ret (v := .tuple #[.agg zeroT.toArray, .int .i64 (c1 : Int)]) (by simp [results, Tryd.results25, go_sem, zeroT, r0, r1, r2, r3, r4]) rfl ⟨?_, rfl⟩
    exact below_set5 (unhide HB1).b (by omega) _ _ _ _ _
  case pos =>
  obtain ⟨y0, y1, y2, y3, y4⟩ := (unhide HB1).x.cells
  have HN := hide (chk_nice T hc1)
  rw [if_neg (by simp [hc1])] at HS
  rw [hc1]
  clear hc1
  go_wp2_with fail
  refine (unhide HC2 w1 (unhide HB1).b).mono ?_
  rintro e w2 ⟨rfl, hb2⟩
  have HB2 := hide ((unhide HB1).kept hb2 (unhide HB1).s)
  clear HC2 HB1 hb2 y0 y1 y2 y3 y4
  by_cases hc2 : (chk X 1 0).1 = 0
  case neg =>
    have hn1 := ne0 hc2
    have HSr : Hid (putS T s X = .error (chk X 1 0).1) := by show _ = _; rw [unhide HS, if_pos hc2]
    obtain ⟨r0, r1, r2, r3, r4⟩ := (unhide HB2).r.cells
    have rf0 := (unhide HB2).r.fr 0
    have rf1 := (unhide HB2).r.fr 1
    have rf2 := (unhide HB2).r.fr 2
    have rf3 := (unhide HB2).r.fr 3
    have rf4 := (unhide HB2).r.fr 4
    clear hc2
    generalize (chk X 1 0).1 = c1 at *
    go_wp2_with fail
    rw [unhide HSr]
    refine bodyPost_ret (v := .tuple #[.agg zeroT.toArray, .int .i64 (c1 : Int)]) (by simp [results, Tryd.results25, go_sem, zeroT, r0, r1, r2, r3, r4]) rfl ⟨?_, rfl⟩
    exact below_set5 (unhide HB2).b (by omega) _ _ _ _ _
  case pos =>
  rw [if_neg (by simp [hc2])] at HS
  rw [hc2]
  clear hc2
  go_wp2_with fail
  refine (unhide HP w2).mono ?_
  rintro e w3 ⟨hb3, hpl⟩
  have HB3 := hide ((unhide HB2).kept hb3 (unhide HB2).s)
  clear HP HB2 hb3
  rcases hpl with ⟨rfl, hpl⟩ | ⟨rfl, hpl⟩
  case inr =>
    have HSr : Hid (putS T s X = .error 9) := by show _ = _; rw [unhide HS, if_pos (isPl_no hpl)]
    obtain ⟨r0, r1, r2, r3, r4⟩ := (unhide HB3).r.cells
    have rf0 := (unhide HB3).r.fr 0
    have rf1 := (unhide HB3).r.fr 1
    have rf2 := (unhide HB3).r.fr 2
    have rf3 := (unhide HB3).r.fr 3
    have rf4 := (unhide HB3).r.fr 4
    clear hpl
    go_wp2_with fail
    rw [unhide HSr]
    refine bodyPost_ret (v := .tuple #[.agg zeroT.toArray, .int .i64 9]) (by simp [results, Tryd.results25, go_sem, zeroT, r0, r1, r2, r3, r4]) rfl ⟨?_, rfl⟩
    exact below_set5 (unhide HB3).b (by omega) _ _ _ _ _
  case inl =>
  have hip := isPl_yes hpl
  rw [if_neg (by simp [hip])] at HS
  have HE := hide (isPl_ent hip)
  have HL3 := hide (unhide HLa w3 (unhide HB3).b (unhide HN) hip)
  obtain ⟨y0, y1, y2, y3, y4⟩ := (unhide HB3).x.cells
  obtain ⟨z0, z1, z2, z3, z4⟩ := (unhide HB3).t.cells
  clear HLa hpl hip
  go_wp2_with fail
  refine (unhide HL3).mono ?_
  rintro e w4 ⟨hb4, hans⟩
  have HB4 := hide ((unhide HB3).kept hb4 (unhide HB3).s)
  have hs4 := hb4.size
  have hs3 := (unhide HB3).s
  clear HL3 HB3 hb4 y0 y1 y2 y3 y4 z0 z1 z2 z3 z4
  cases hlr : laidS T (placeL s) X 1 with
  | error en =>
    rw [hlr] at hans HS
    have he : e = .returned (.tuple #[.agg zeroT.toArray, .int .i64 (en : Int)]) := hans
    subst he
    have hen := ne0 (laidS_err hlr)
    have HSr : Hid (putS T s X = .error en) := unhide HS
    obtain ⟨r0, r1, r2, r3, r4⟩ := (unhide HB4).r.cells
    have rf0 := (unhide HB4).r.fr 0
    have rf1 := (unhide HB4).r.fr 1
    have rf2 := (unhide HB4).r.fr 2
    have rf3 := (unhide HB4).r.fr 3
    have rf4 := (unhide HB4).r.fr 4
    clear hans hlr
    have hlt4 : w.heap.size + 1 + 1 < w4.heap.size := by omega
    have hne4 : w.heap.size + 1 + 1 ≠ w4.heap.size := by omega
    unfold zeroT
    go_wp2_with fail
    rw [unhide HSr]
    refine bodyPost_ret (v := .tuple #[.agg zeroT.toArray, .int .i64 (en : Int)]) (by simp [results, Tryd.results25, go_sem, zeroT, r0, r1, r2, r3, r4, hlt4]) rfl ⟨?_, rfl⟩
    exact (below_set5 (unhide HB4).b (by omega) _ _ _ _ _).alloc (by rw [set5_size]; omega) _
  | ok W =>
    rw [hlr] at hans HS
    obtain ⟨cs', rfl, hL'⟩ : ∃ cs : List Value, e = .returned (.tuple #[.agg cs.toArray, .int .i64 0]) ∧ Lays w.heap.size w3.heap.size w4 W cs := hans
    obtain ⟨j0, j1, f1, g1, h1, f2, g2, h2, f3, g3, h3, rfl⟩ := hL'.lies.form
    have HWt : Hid (wt W ≤ 100000) := by
      have h1 := laid_wt _ hlr (unhide HE) (unhide HN)
      have h2 := unhide HW
      show _ ≤ _
      omega
    have HL' := hide hL'.lies
    have hlt4 : w.heap.size + 1 + 1 < w4.heap.size := by omega
    have hne4 : w.heap.size + 1 + 1 ≠ w4.heap.size := by omega
    clear hlr hL'
    go_wp2_with fail
    obtain ⟨w5, hw5⟩ : ∃ w5, w5 = w4.alloc (.cells #[.int .i64 j0, .bool j1, .slice f1 g1 h1, .slice f2 g2 h2, .slice f3 g3 h3] 26) := ⟨_, rfl⟩
    have hb45 : Below w4.heap.size w4 w5 := by rw [hw5]; exact (Below.refl _ _).alloc (Nat.le_refl _) _
    have hs5 : w5.heap.size = w4.heap.size + 1 := by rw [hw5]; simp
    have hbx5 : Bx w5 w4.heap.size (.int .i64 j0) (.bool j1) (.slice f1 g1 h1) (.slice f2 g2 h2) (.slice f3 g3 h3) := by rw [hw5]; exact bx_new _ _ _ _ _ _
    have HB5 := hide ((unhide HB4).kept hb45 (by omega))
    have HL5 := hide ((unhide HL').kept hb45 (Nat.le_refl _))
    rw [← hw5]
    clear hw5 HB4 HL' hb45
    refine (check_any W 0 w4.heap.size _ w5 (unhide HL5) (unhide HWt) (by omega)).mono ?_
    rintro e w6 ⟨rfl, hb6⟩
    have hs6 := hb6.size
    have HB6 := hide ((unhide HB5).kept hb6 (by omega))
    have HL6 := hide ((unhide HL5).kept hb6 (by omega))
    have hbx6 := hbx5.kept hb6 (by omega)
    clear HB5 HL5 hb6 hbx5
    obtain ⟨r0, r1, r2, r3, r4⟩ := (unhide HB6).r.cells
    have rf0 := (unhide HB6).r.fr 0
    have rf1 := (unhide HB6).r.fr 1
    have rf2 := (unhide HB6).r.fr 2
    have rf3 := (unhide HB6).r.fr 3
    have rf4 := (unhide HB6).r.fr 4
    by_cases hc3 : (chk W 1 0).1 = 0
    case neg =>
      have hn1 := ne0 hc3
      have HSr : Hid (putS T s X = .error (chk W 1 0).1) := by show _ = _; rw [unhide HS]; exact if_pos hc3
      clear hc3
      generalize (chk W 1 0).1 = c1 at *
      go_wp2_with fail
      rw [unhide HSr]
      refine bodyPost_ret (v := .tuple #[.agg zeroT.toArray, .int .i64 (c1 : Int)]) (by simp [results, Tryd.results25, go_sem, zeroT, r0, r1, r2, r3, r4]) rfl ⟨?_, rfl⟩
      exact below_set5 (unhide HB6).b (by omega) _ _ _ _ _
    case pos =>
      have HSr : Hid (putS T s X = .ok W) := by show _ = _; rw [unhide HS]; exact if_neg (by simp [hc3])
      have HCl := hide (clone_any W 0 w4.heap.size _ w6 (unhide HL6) (unhide HWt) (by omega) (chk_nice W hc3).ev)
      obtain ⟨y0, y1, y2, y3, y4⟩ := hbx6.cells
      rw [hc3]
      clear hc3
      clear r0 r1 r2 r3 r4 rf0 rf1 rf2 rf3 rf4
      go_wp2_with fail
      refine (unhide HCl).mono ?_
      rintro e w7 ⟨c7, rfl, hb7, hO⟩
      obtain ⟨q0, q1, f4, g4, h4, f5, g5, h5, f6, g6, h6, rfl⟩ := hO.lies.form
      have hs7 := hb7.size
      have HB7 := hide ((unhide HB6).kept hb7 (by omega))
      obtain ⟨r0, r1, r2, r3, r4⟩ := (unhide HB7).r.cells
      have rf0 := (unhide HB7).r.fr 0
      have rf1 := (unhide HB7).r.fr 1
      have rf2 := (unhide HB7).r.fr 2
      have rf3 := (unhide HB7).r.fr 3
      have rf4 := (unhide HB7).r.fr 4
      have HO := hide hO
      clear hO hb7 HB6 HL6 hbx6 y0 y1 y2 y3 y4 HCl
      go_wp2_with fail
      rw [unhide HSr]
      refine bodyPost_ret (v := .tuple #[.agg #[.int .i64 q0, .bool q1, .slice f4 g4 h4, .slice f5 g5 h5, .slice f6 g6 h6], .int .i64 0]) (by simp [results, Tryd.results25, go_sem, r0, r1, r2, r3, r4]) rfl ⟨?_, ?_⟩
      · exact below_set5 (unhide HB7).b (by omega) _ _ _ _ _
      · refine ⟨[.int .i64 q0, .bool q1, .slice f4 g4 h4, .slice f5 g5 h5, .slice f6 g6 h6], rfl, ?_⟩
        rw [set5_eq]
        exact ((unhide HO).same (fun k h1 h2 => set5_other _ _ _ _ _ _ _ _ (by omega))).mono (by omega) (by rw [set5_size]; omega)
end Go.Proofs.YthfjofmfiklegaaDoor
/- Files, in the code. -/
namespace Go.Proofs.YthfjofmfiklegaaDoor
open Go.RowKit
/-- The places of all files, rising. -/
noncomputable def filesS (T : Tr) : List ByteArray := if (chk T 1 0).1 = 0 then sortB (filesL T ⟨#[]⟩) else []
theorem Gt.below {c : Nat} {w w' : World} {v v' : Value} (h : Gt c w w' v v') {B : Nat} (hB : B ≤ c) (hc : c ≤ w.heap.size) (hv : ∀ g, v.ownBlock = some g → B ≤ g) : Below B w w' :=
  ⟨h.os, h.tape, h.output, h.size, fun k hk => h.keep k (by omega) (by omega) (fun e => by have := hv k e; omega)⟩
set_option maxRecDepth 20000 in
set_option maxHeartbeats 1000000 in
theorem files_any (T : Tr) (lo hi : Nat) (cs : List Value) (w : World) (hL : Lies lo hi w T cs) (hW : wt T ≤ 100000) (hhi : hi ≤ w.heap.size) :
    Calls Tryd.prog 18 #[.agg cs.toArray] w fun e w' => Below w.heap.size w w' ∧ ∃ a c, e = .returned (.slice a (filesS T).length c) ∧ Row w.heap.size w'.heap.size w' (.slice a (filesS T).length c) (filesS T).length ((filesS T).map .string) := by
  obtain ⟨kt, xt, at0, nt, ct, bt, mt, dt, et, pt, qt, rfl⟩ := hL.form
  have HC1 := hide (fun W (h : Below w.heap.size w W) => check_any T lo hi _ W (hL.kept h hhi) hW (by have := h.size; omega))
  have HL := hide hL
  obtain ⟨wA, hwA⟩ : ∃ wA, wA = w.alloc (.cells #[.int .i64 kt, .bool xt, .slice at0 nt ct, .slice bt mt dt, .slice et pt qt] 26) := ⟨_, rfl⟩
  have hbA : Below w.heap.size w wA := by rw [hwA]; exact (Below.refl _ _).alloc (Nat.le_refl _) _
  have hsA : wA.heap.size = w.heap.size + 1 := by rw [hwA]; simp
  have hbx : Bx wA w.heap.size (.int .i64 kt) (.bool xt) (.slice at0 nt ct) (.slice bt mt dt) (.slice et pt qt) := by rw [hwA]; exact bx_new _ _ _ _ _ _
  have HA := hide (And.intro hbA (And.intro hsA hbx))
  have HwA := hide hwA
  have HF : Hid (filesS T = if (chk T 1 0).1 = 0 then sortB (filesL T ⟨#[]⟩) else []) := rfl
  clear hL hwA hbA hsA hbx
  go_enter Tryd.func18, Tryd.ntmps18
  go_wp2_with fail
  rw [← unhide HwA]
  refine (unhide HC1 wA (unhide HA).1).mono ?_
  rintro e w1 ⟨rfl, hb1⟩
  have hs1 := hb1.size
  have HA1 := hide (And.intro ((unhide HA).1.trans (hb1.mono (by have := (unhide HA).2.1; omega))) ((unhide HA).2.2.kept hb1 (by have := (unhide HA).2.1; omega)))
  have hs0 := (unhide HA).2.1
  clear HC1 HwA hb1 HA
  by_cases hc1 : (chk T 1 0).1 = 0
  case neg =>
    have hn1 := ne0 hc1
    rw [if_neg hc1] at HF
    clear hc1
    generalize (chk T 1 0).1 = c1 at *
    go_wp2_with fail
    rw [unhide HF]
    refine bodyPost_ret (v := .slice none 0 0) (by simp [results, Tryd.results18, go_sem]) rfl ⟨(unhide HA1).1, none, 0, rfl, none, 0, rfl, Nat.le_refl _, fun h => absurd h (Nat.lt_irrefl _)⟩
  case pos =>
  have HN := hide (chk_nice T hc1).ev
  rw [if_pos hc1] at HF
  rw [hc1]
  clear hc1
  obtain ⟨y0, y1, y2, y3, y4⟩ := (unhide HA1).2.cells
  have hlt1 : w.heap.size < w1.heap.size := by omega
  go_wp2_with fail
  obtain ⟨wB, hwB⟩ : ∃ wB, wB = w1.alloc (.cells #[.slice none 0 0] 23) := ⟨_, rfl⟩
  have hbB : Below w1.heap.size w1 wB := by rw [hwB]; exact (Below.refl _ _).alloc (Nat.le_refl _) _
  have hsB : wB.heap.size = w1.heap.size + 1 := by rw [hwB]; simp
  have hcB : wB.heap[w1.heap.size]? = some (.cells #[.slice none 0 0] 23) := by
    rw [hwB]
    show (w1.heap.push _)[w1.heap.size]? = _
    rw [Array.getElem?_push, if_pos rfl]
  rw [← hwB]
  clear hwB
  have HG := hide (gather_any T lo hi _ wB w1.heap.size ⟨#[]⟩ none 0 [] ((unhide HL).kept ((unhide HA1).1.trans (hbB.mono (by omega))) hhi) (by omega) (unhide HN) hW (by show 0 + _ ≤ _; omega) (by simp; omega) ⟨by rw [cell_of_row _ _ _ _ _ _ hcB]; rfl, by unfold World.frozen?; rw [hcB]; simp⟩ ⟨by simp, .inl ⟨rfl, rfl⟩⟩)
  refine (unhide HG).mono ?_
  rintro e w2 ⟨rfl, a2, c2, hG2, hC2, hO2⟩
  rw [List.nil_append] at hG2 hC2 hO2
  have hs2 := hG2.size
  have HB2 := hide ((unhide HA1).1.trans ((hbB.mono (by omega)).trans (hG2.below (B := w.heap.size) (by omega) (by omega) (fun g hg => by simp [Value.ownBlock] at hg))))
  have hcc := hC2.cell
  have HS := hide (sort_any (w1.heap.size + 1) a2 c2 (filesL T ⟨#[]⟩) w2 hO2 (by omega) (by have := filesL_len T ⟨#[]⟩; omega))
  have HLen := hide (sortB_length (filesL T ⟨#[]⟩))
  clear HG hG2 hO2 y0 y1 y2 y3 y4 hcB hbB
  generalize hfl : filesL T ⟨#[]⟩ = fl at *
  clear hfl
  go_wp2_with fail
  refine (unhide HS).mono ?_
  rintro e w3 ⟨rfl, hR3, hb3⟩
  have hcc3 : w3.cell? ⟨w1.heap.size, 0, none⟩ = some (.slice a2 fl.length c2) := by rw [hb3.cell (p := ⟨w1.heap.size, 0, none⟩) (by show w1.heap.size < _; omega)]; exact hcc
  have HR3 := hide (And.intro hR3 hb3)
  have hs3 := hb3.size
  clear hR3 hb3 hcc HS
  go_wp2_with fail
  rw [unhide HF]
  refine bodyPost_ret (v := .slice a2 fl.length c2) (by simp [results, Tryd.results18, go_sem]) rfl ⟨(unhide HB2).trans ((unhide HR3).2.mono (by omega)), a2, c2, by rw [unhide HLen], ?_⟩
  rw [unhide HLen]
  exact (unhide HR3).1.mono (by omega) (Nat.le_refl _)
end Go.Proofs.YthfjofmfiklegaaDoor
/- The known file at a place: the plain mathematics. -/
namespace Go.Proofs.YthfjofmfiklegaaDoor
open Go.RowKit
def fileX : Tr := .mk 1 false ⟨#[120]⟩ [] []
def zeroTr : Tr := .mk 0 false ⟨#[]⟩ [] []
def knownT : Tr := .mk 2 false ⟨#[]⟩ [⟨#[97]⟩] [.mk 2 false ⟨#[]⟩ [⟨#[98]⟩] [fileX]]
theorem ent_a : entB ⟨#[97]⟩ = true := by unfold entB; rw [ByteArray.toList_eq]; decide
theorem ent_b : entB ⟨#[98]⟩ = true := by unfold entB; rw [ByteArray.toList_eq]; decide
theorem ok_a : okNames [⟨#[97]⟩] := fun i hi => by
  obtain rfl : i = 0 := by simp at hi; exact hi
  rw [okName_first (by simp)]; exact ent_a
theorem ok_b : okNames [⟨#[98]⟩] := fun i hi => by
  obtain rfl : i = 0 := by simp at hi; exact hi
  rw [okName_first (by simp)]; exact ent_b
theorem chk_zero : (chk zeroTr 1 0).1 = 3 := by unfold zeroTr; rw [chk, if_neg (by omega)]; simp [locErr]
theorem chk_fileX (deep n : Nat) (hd : deep ≤ 64) (hn : n < 65536) : chk fileX deep n = (0, n + 1) := by
  unfold fileX
  have h : locErr 1 false (⟨#[120]⟩ : ByteArray).size [] ([] : List Tr).length = 0 := (loc_file (x := false) (d := 1) (nk := 0) (ns := []) rfl rfl).trans rfl
  rw [chk, if_neg (by omega), if_pos h, chks]
theorem chk_emptyDir : (chk emptyDir 1 0).1 = 0 := by
  unfold emptyDir
  have h : locErr 2 false (⟨#[]⟩ : ByteArray).size [] ([] : List Tr).length = 0 := loc_dir_ok (okNames_nil rfl)
  rw [chk, if_neg (by omega), if_pos h, chks]
theorem chk_b (deep n : Nat) (hd : deep ≤ 63) (hn : n < 65535) : chk (.mk 2 false ⟨#[]⟩ [⟨#[98]⟩] [fileX]) deep n = (0, n + 2) := by
  have h : locErr 2 false (⟨#[]⟩ : ByteArray).size [⟨#[98]⟩] [fileX].length = 0 := loc_dir_ok ok_b
  rw [chk, if_neg (by omega), if_pos h, chks, chk_fileX _ _ (by omega) (by omega), if_pos rfl, chks]
theorem chk_known : (chk knownT 1 0).1 = 0 := by
  unfold knownT
  have h : locErr 2 false (⟨#[]⟩ : ByteArray).size [⟨#[97]⟩] [Tr.mk 2 false ⟨#[]⟩ [⟨#[98]⟩] [fileX]].length = 0 := loc_dir_ok ok_a
  rw [chk, if_neg (by omega), if_pos h, chks, chk_b _ _ (by omega) (by omega), if_pos rfl, chks]
theorem place_ab : placeL ⟨#[97, 47, 98]⟩ = [⟨#[97]⟩, ⟨#[98]⟩] := rfl
theorem isPl_ab : isPl ⟨#[97, 47, 98]⟩ = true := by unfold isPl; rw [place_ab]; simp [ent_a, ent_b]
theorem laid_ab : laidS emptyDir [⟨#[97]⟩, ⟨#[98]⟩] fileX 1 = .ok knownT := by
  unfold emptyDir
  rw [laidS, if_neg (by omega), if_pos rfl]
  have e : kidAt [] [] (⟨#[97]⟩ : ByteArray) = emptyDir := rfl
  rw [e]
  unfold emptyDir
  rw [laidS, if_neg (by omega), if_pos rfl]
  have e : kidAt [] [] (⟨#[98]⟩ : ByteArray) = emptyDir := rfl
  rw [e]
  unfold emptyDir
  rw [laidS, if_neg (by omega)]
  rfl
theorem put_known : putS emptyDir ⟨#[97, 47, 98]⟩ fileX = .ok knownT := by
  unfold putS
  rw [if_neg (by simp [chk_emptyDir]), if_neg (by simp [chk_fileX 1 0 (by omega) (by omega)]), if_neg (by simp [isPl_ab]), place_ab, laid_ab]
  show (if (chk knownT 1 0).1 ≠ 0 then _ else _) = _
  rw [if_neg (by simp [chk_known])]
theorem files_known : filesS knownT = [⟨#[97, 47, 98]⟩] := by
  unfold filesS
  rw [if_pos chk_known]
  have e : filesL knownT ⟨#[]⟩ = [⟨#[97, 47, 98]⟩] := by
    unfold knownT
    rw [filesL, filesLs, filesL, filesLs]
    unfold fileX
    rw [filesL, filesLs_nil, filesLs_nil]
    rfl
  rw [e]
  unfold sortB sortL
  simp
theorem wt_fileX : wt fileX = 1 := by unfold fileX; rw [wt]; simp only [tenths, wts, List.length_nil]; rfl
theorem wt_known : wt knownT = 5 := by
  unfold knownT
  have e : wts [fileX] = 1 := by rw [wts, wt_fileX, wts]
  rw [wt, wts, wt, e, wts]
  rfl
theorem wt_zero : wt zeroTr = 1 := by unfold zeroTr; rw [wt]; simp only [tenths, wts, List.length_nil]; rfl
end Go.Proofs.YthfjofmfiklegaaDoor
/- Bytes as a text. -/
namespace Go.Proofs.YthfjofmfiklegaaDoor
open Go.RowKit
def cv22 (v : Value) : Sem Value := convert 22 9 v
@[go_sem ↓] theorem convert_cv22 (v : Value) : convert 22 9 v = cv22 v := rfl
theorem push_fold (l : List UInt8) : ∀ r : ByteArray, (l.map (fun b => (b.toNat : Int))).foldl (fun r n => r.push (UInt8.ofNat n.toNat)) r = ⟨r.data ++ l.toArray⟩ := by
  induction l with
  | nil => intro r; simp
  | cons x l ih =>
    intro r
    rw [List.map_cons, List.foldl_cons, ih]
    simp [ByteArray.push]
theorem run_cv22 {lo hi : Nat} {w : World} {a : Option Addr} {c : Nat} {d : ByteArray} (h : Row lo hi w (.slice a d.size c) d.size (byteVals d)) : (cv22 (.slice a d.size c)).run Tryd.prog w = .ok (.string d) w := by
  unfold cv22
  rw [run_convert_bytes_string w 22 9 5 _ _ _ Tryd.underlying22 Tryd.underlying5 Tryd.underlying9]
  by_cases h0 : 0 < d.size
  · obtain ⟨b, rfl, hcell⟩ := h.src h0
    have hload : (loadCells b d.size).run Tryd.prog w = .ok ((d.data.toList.map (fun b => (b.toNat : Int))).map (Value.int .u8)).toArray w := by
      have := run_loadCells_list (P := Tryd.prog) w b ((d.data.toList.map (fun b => (b.toNat : Int))).map (Value.int .u8)) (fun j v hv => hcell j v (by rw [List.map_map] at hv; exact hv))
      simpa using this
    rw [run_bytesToString w _ d.size c _ hload, push_fold]
    simp [ByteArray.empty, ByteArray.emptyWithCapacity]
    cases d
    simp
    rfl
  · have hz : d.size = 0 := by omega
    obtain rfl : d = ⟨#[]⟩ := by
      cases d with
      | mk a => have : a = #[] := Array.eq_empty_of_size_eq_zero hz
                rw [this]
    cases a with
    | none => rfl
    | some x =>
      show (Conv.bytesToString (.slice (some x) 0 c)).run Tryd.prog w = _
      rw [run_bytesToString w _ 0 c [] rfl]; rfl
end Go.Proofs.YthfjofmfiklegaaDoor
