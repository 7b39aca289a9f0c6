/- at, in the code. -/
import Derived.Test.YthfjofmfiklegaaDoorK5
namespace Go.Proofs.YthfjofmfiklegaaDoor
open Go.RowKit
/-- What stands at a place. -/
def atS : Tr → List ByteArray → Option Tr
  | T, [] => some T
  | .mk _ _ _ ns ks, n :: r => if has ns n then atS (kidAt ns ks n) r else none
/-- What at answers. -/
def AtA (lo hi : Nat) (r : Option Tr) (e : Ending) (w' : World) : Prop := match r with
  | none => e = .returned (.tuple #[.agg zeroT.toArray, .bool false])
  | some U => ∃ cs : List Value, e = .returned (.tuple #[.agg cs.toArray, .bool true]) ∧ Lies lo hi w' U cs
set_option maxRecDepth 20000 in
set_option maxHeartbeats 2000000 in
theorem at_any (l : List ByteArray) : ∀ (T : Tr) (lo hi : Nat) (cs : List Value) (w : World), Lies lo hi w T cs → hi ≤ w.heap.size → Nice T → wt T ≤ 100000 → (∀ n ∈ l, entB n = true) → (joinB l).size ≤ 1000000 →
    Calls Tryd.prog 38 #[.agg cs.toArray, .string (joinB l)] w fun e w' => Below w.heap.size w w' ∧ AtA lo hi (atS T l) e w' := by
  induction l with
  | nil =>
    intro T lo hi cs w hL hhi hN hW hent hsz
    obtain ⟨kt, xt, at0, nt, ct, bt, mt, dt, et, pt, qt, rfl⟩ := hL.form
    have e0 : joinB [] = ⟨#[]⟩ := rfl
    rw [e0]
    have HL := hide hL
    have HS : Hid (atS T [] = some T) := by show atS _ _ = _; cases T; rw [atS]
    clear e0 hL hN hW hent hsz
    go_enter Tryd.func38, Tryd.ntmps38
    go_wp2_with fail
    rw [unhide HS]
    have hb : Below w.heap.size w ((w.alloc (.cells #[.int .i64 kt, .bool xt, .slice at0 nt ct, .slice bt mt dt, .slice et pt qt] 26)).alloc (.cells #[.int .i64 kt, .bool xt, .slice at0 nt ct, .slice bt mt dt, .slice et pt qt] 26)) := ((Below.refl _ _).alloc (Nat.le_refl _) _).alloc (by simp) _
    refine bodyPost_ret (v := .tuple #[.agg #[.int .i64 kt, .bool xt, .slice at0 nt ct, .slice bt mt dt, .slice et pt qt], .bool true]) (by simp [results, Tryd.results38, go_sem]) rfl ⟨hb, ?_⟩
    exact ⟨[.int .i64 kt, .bool xt, .slice at0 nt ct, .slice bt mt dt, .slice et pt qt], rfl, (unhide HL).kept hb hhi⟩
  | cons nm r ih =>
    intro T lo hi cs w hL hhi hN hW hent hsz
    have hSm : ∃ k x d ns ks, T = .mk k x d ns ks := by cases T; exact ⟨_, _, _, _, _, rfl⟩
    obtain ⟨k, x, d, ns, ks, rfl⟩ := hSm
    have hSm := small_of hW
    obtain ⟨hri, hln, hnk⟩ : Rise ns ∧ ns.length = ks.length ∧ ∀ t ∈ ks, Nice t := by cases hN with | mk _ _ _ _ _ h1 h2 h3 => exact ⟨h1, h2, h3⟩
    cases hL with
    | mk _ _ _ _ _ vd vn vk Ks hl hd hn hk hK =>
    obtain ⟨ad, cd, rfl, hcd⟩ := hd.slice
    obtain ⟨an, cn, rfl, hcn⟩ := hn.slice
    obtain ⟨ak, ck, rfl, hck⟩ := hk.slice
    have hpl : ((joinB (nm :: r)).toList == []) = false := by
      rw [beq_eq_false_iff_ne, ByteArray.toList_eq]
      intro h
      have h1 := entB_pos (hent nm (by simp))
      have h2 := join_mem (parts := nm :: r) (x := nm) (by simp)
      have h3 : (joinB (nm :: r)).data.toList.length = 0 := by rw [h]; rfl
      have h4 : (joinB (nm :: r)).size = (joinB (nm :: r)).data.toList.length := by simp
      omega
    have HS : Hid (atS (.mk k x d ns ks) (nm :: r) = if has ns nm then atS (kidAt ns ks nm) r else none) := by show atS _ _ = _; rw [atS]
    obtain ⟨wA, hwA⟩ : ∃ wA, wA = (w.alloc (.cells #[.int .i64 k, .bool x, .slice ad d.size cd, .slice an ns.length cn, .slice ak ks.length ck] 26)).alloc (.cells #[.int .i64 0, .bool false, .slice none 0 0, .slice none 0 0, .slice none 0 0] 26) := ⟨_, rfl⟩
    have hsA : wA.heap.size = w.heap.size + 1 + 1 := by rw [hwA]; simp
    have hbA : Below w.heap.size w wA := by rw [hwA]; exact ((Below.refl _ _).alloc (Nat.le_refl _) _).alloc (by simp) _
    have hbt : Bx wA w.heap.size (.int .i64 k) (.bool x) (.slice ad d.size cd) (.slice an ns.length cn) (.slice ak ks.length ck) := by
      rw [hwA]; exact (bx_new w _ _ _ _ _).kept ((Below.refl (w.heap.size + 1) _).alloc (by simp) _) (by omega)
    have hbr : Bx wA (w.heap.size + 1) (.int .i64 0) (.bool false) (.slice none 0 0) (.slice none 0 0) (.slice none 0 0) := by
      rw [hwA]
      have := bx_new (w.alloc (.cells #[.int .i64 k, .bool x, .slice ad d.size cd, .slice an ns.length cn, .slice ak ks.length ck] 26)) (.int .i64 0) (.bool false) (.slice none 0 0) (.slice none 0 0) (.slice none 0 0)
      simpa using this
    have HCut := hide (fun w => cut_any nm r w (entB_no (hent nm (by simp))) hsz)
    have HSe := hide (fun w (h : Row lo hi w (.slice an ns.length cn) ns.length (ns.map .string)) => search_any lo hi an cn ns nm w h hri (by have := hSm.n; omega))
    have hsz' : (joinB r).size ≤ 1000000 := by
      cases r with
      | nil => exact Nat.zero_le _
      | cons m r' => rw [join_size] at hsz; omega
    have HI := hide (fun (T : Tr) (cs : List Value) (w : World) (h1 : Lies lo hi w T cs) (h3 : hi ≤ w.heap.size) (h5 : Nice T) (h6 : wt T ≤ 100000) => ih T lo hi cs w h1 h3 h5 h6 (fun n hn => hent n (by simp [hn])) hsz')
    have HT := hide (And.intro hn (And.intro hk (And.intro hl (And.intro hK (And.intro hSm (And.intro hln hnk))))))
    have HA := hide (And.intro hsA (And.intro hbA (And.intro hbt hbr)))
    have HwA := hide hwA
    clear hn hk hl hK hSm hsA hbA hbt hbr hwA hd hN hW hsz hent hri hnk ih hsz' hln
    generalize joinB (nm :: r) = pl at *
    generalize joinB r = pr at *
    go_enter Tryd.func38, Tryd.ntmps38
    go_wp2_with fail
    rw [← unhide HwA]
    refine (unhide HCut wA).mono ?_
    rintro e w1 ⟨⟨q, rfl⟩, b, rfl⟩
    clear HCut
    obtain ⟨c0, c1, c2, c3, c4⟩ := (unhide HA).2.2.1.cells
    go_wp2_with fail
    refine (unhide HSe _ (((unhide HT).1.below (unhide HA).2.1 hhi).below (below_drewN (Below.refl wA.heap.size wA) q) (by have := (unhide HA).1; omega))).mono ?_
    rintro e w1 ⟨hw1, hF⟩
    rw [hw1]
    obtain ⟨rfl, hple⟩ := found_pos hF
    clear hw1 w1 hF HSe
    have hsA := (unhide HA).1
    have hlA : w.heap.size < wA.heap.size := by omega
    obtain ⟨wB, hwB⟩ : ∃ wB, wB = wA.drewN q := ⟨_, rfl⟩
    have hbB : Below wA.heap.size wA wB := by rw [hwB]; exact below_drewN (Below.refl wA.heap.size wA) q
    have hsB : wB.heap.size = w.heap.size + 1 + 1 := by rw [hwB]; exact hsA
    have htB := (unhide HA).2.2.1.kept hbB (by omega)
    have hrB := (unhide HA).2.2.2.kept hbB (by omega)
    have hbw := (unhide HA).2.1.trans (hbB.mono (by omega))
    rw [← hwB]
    clear hwB c0 c1 c2 c3 c4
    obtain ⟨c0, c1, c2, c3, c4⟩ := htB.cells
    cases hh : has ns nm
    case false =>
      rw [hh, if_neg (by simp)] at HS
      obtain ⟨r0, r1, r2, r3, r4⟩ := hrB.cells
      have rf0 := hrB.fr 0
      have rf1 := hrB.fr 1
      have rf2 := hrB.fr 2
      have rf3 := hrB.fr 3
      have rf4 := hrB.fr 4
      have HB := hide hbw
      clear htB hbw hbB hrB
      go_wp2_with fail
      rw [unhide HS]
      refine bodyPost_ret (v := .tuple #[.agg zeroT.toArray, .bool false]) (by simp [results, Tryd.results38, go_sem, zeroT, r0, r1, r2, r3, r4]) rfl ⟨?_, rfl⟩
      exact below_set5 (unhide HB) (by omega) _ _ _ _ _
    case true =>
      rw [hh, if_pos rfl] at HS
      have hlt := has_lt hh
      have hlk : pos ns nm < ks.length := by rw [← (unhide HT).2.2.2.2.2.1]; exact hlt
      obtain ⟨gk, ok, eak, hg1, hg2, hcell⟩ := (unhide HT).2.1.at (show 0 < ks.length by omega)
      obtain ⟨qk, qb, p1, p2, p3, p4, p5, p6, p7, p8, p9, hLk, u0, u1, u2, u3, u4⟩ := kid_sl (unhide HT).2.2.1 hcell (unhide HT).2.2.2.1 (pos ns nm) hlk
      clear hcell
      subst eak
      rw [← hbw.cell (p := ⟨gk, _, none⟩) (by show gk < _; omega)] at u0
      rw [← hbw.cell (p := ⟨gk, _, none⟩) (by show gk < _; omega)] at u1
      rw [← hbw.cell (p := ⟨gk, _, none⟩) (by show gk < _; omega)] at u2
      rw [← hbw.cell (p := ⟨gk, _, none⟩) (by show gk < _; omega)] at u3
      rw [← hbw.cell (p := ⟨gk, _, none⟩) (by show gk < _; omega)] at u4
      have HI2 : Hid (Calls Tryd.prog 38 #[.agg #[.int .i64 qk, .bool qb, .slice p1 p2 p3, .slice p4 p5 p6, .slice p7 p8 p9], .string pr] wB fun e w' => Below wB.heap.size wB w' ∧ AtA lo hi (atS (kidAt ns ks nm) r) e w') :=
        unhide HI (kidAt ns ks nm) [.int .i64 qk, .bool qb, .slice p1 p2 p3, .slice p4 p5 p6, .slice p7 p8 p9] wB (by rw [kidAt_yes hh hlk]; exact hLk.kept hbw hhi) (by omega) (kidAt_nice (unhide HT).2.2.2.2.2.2) (kidAt_wt (unhide HT).2.2.2.2.1.t)
      have HB := hide hbw
      clear hLk hbw hbB htB
      go_wp2_with fail
      refine (unhide HI2).mono ?_
      rintro e w4 ⟨hb4, hans⟩
      have hs4 := hb4.size
      have hr4 := hrB.kept hb4 (by omega)
      obtain ⟨r0, r1, r2, r3, r4⟩ := hr4.cells
      have rf0 := hr4.fr 0
      have rf1 := hr4.fr 1
      have rf2 := hr4.fr 2
      have rf3 := hr4.fr 3
      have rf4 := hr4.fr 4
      have HB4 := hide ((unhide HB).trans (hb4.mono (by omega)))
      clear hr4 hb4 HI2 u0 u1 u2 u3 u4 c0 c1 c2 c3 c4 hrB HI
      cases hlr : atS (kidAt ns ks nm) r with
      | none =>
        rw [hlr] at hans HS
        have he : e = .returned (.tuple #[.agg zeroT.toArray, .bool false]) := hans
        subst he
        clear hans hlr
        unfold zeroT
        go_wp2_with fail
        rw [unhide HS]
        refine bodyPost_ret (v := .tuple #[.agg zeroT.toArray, .bool false]) (by simp [results, Tryd.results38, go_sem, zeroT, r0, r1, r2, r3, r4]) rfl ⟨?_, rfl⟩
        exact below_set5 (unhide HB4) (by omega) _ _ _ _ _
      | some U =>
        rw [hlr] at hans HS
        obtain ⟨cs', rfl, hL'⟩ : ∃ cs : List Value, e = .returned (.tuple #[.agg cs.toArray, .bool true]) ∧ Lies lo hi w4 U cs := hans
        obtain ⟨j0, j1, f1, g1, h1, f2, g2, h2, f3, g3, h3, rfl⟩ := hL'.form
        have HL' := hide hL'
        clear hL' hlr
        go_wp2_with fail
        rw [unhide HS]
        refine bodyPost_ret (v := .tuple #[.agg #[.int .i64 j0, .bool j1, .slice f1 g1 h1, .slice f2 g2 h2, .slice f3 g3 h3], .bool true]) (by simp [results, Tryd.results38, go_sem, r0, r1, r2, r3, r4]) rfl ⟨below_set5 (unhide HB4) (by omega) _ _ _ _ _, ?_⟩
        refine ⟨[.int .i64 j0, .bool j1, .slice f1 g1 h1, .slice f2 g2 h2, .slice f3 g3 h3], rfl, ?_⟩
        rw [set5_eq]
        exact (unhide HL').same (fun k h1 h2 => set5_other _ _ _ _ _ _ _ _ (by omega))
end Go.Proofs.YthfjofmfiklegaaDoor
