/- TreeAbove, in the code. -/
import Derived.Test.YthfjofmfiklegabDoorElsx
import Derived.Test.YthfjofmfiklegabDoorCounts
import Derived.Deep.RegionLaw
namespace Go.Proofs.YthfjofmfiklegabDoor
open Go.RowKit
set_option linter.unusedSimpArgs false
/-- Two orders, one walk. -/
theorem one_way {P G : Prop} (all : P) (go : Hid P → G) : G := go all
theorem box_new (w : World) (v0 v1 v2 v3 v4 : Value) : ∃ w', w' = w.alloc (.cells #[v0, v1, v2, v3, v4] 26) ∧ Below w.heap.size w w' ∧ w'.heap.size = w.heap.size + 1 ∧ Bx w' w.heap.size v0 v1 v2 v3 v4 :=
  ⟨_, rfl, (Below.refl _ _).alloc (Nat.le_refl _) _, by simp, bx_new _ _ _ _ _ _⟩
theorem below_alloc_drew {a w1 w2 : World} {B : Nat} (h : Below B a w1) (hB : B ≤ w1.heap.size) (o : Obj) (e : w2 = w1.alloc o) : Below B a w2 := by rw [e]; exact h.alloc hB o
theorem cut_slash {s : ByteArray} {i : Nat} (hi : i < s.size) (h : s[i] = 47) : s.data.toList = (s.data.toList.take i) ++ 47 :: s.data.toList.drop (i + 1) := by
  have hi' : i < s.data.toList.length := hi
  have e : s.data.toList[i] = 47 := h
  rw [← e, ← List.drop_eq_getElem_cons hi', List.take_append_drop]
theorem cn_pos (T : Tr) : 1 ≤ cn T := by cases T; rw [cn]; omega
theorem own_kind {B : Nat} {w' : World} {x : Bool} {d : ByteArray} {ns : List ByteArray} {ks : List Tr} {e : Ending} (h : PutA B (.ok (.mk 2 x d ns ks)) e w') : ∃ x' a1 n1 c1 a2 n2 c2 a3 n3 c3, e = .returned (.tuple #[.agg #[.int .i64 2, .bool x', .slice a1 n1 c1, .slice a2 n2 c2, .slice a3 n3 c3], .int .i64 0]) := by
  obtain ⟨cs, he, hO⟩ : ∃ cs : List Value, e = .returned (.tuple #[.agg cs.toArray, .int .i64 0]) ∧ Own w' B w'.heap.size (.mk 2 x d ns ks) cs := h
  have hL := hO.lies
  obtain ⟨k, y, a1, n1, c1, a2, n2, c2, a3, n3, c3, rfl⟩ := hL.form
  cases hL
  exact ⟨_, _, _, _, _, _, _, _, _, _, he⟩
set_option maxRecDepth 20000 in
set_option maxHeartbeats 8000000 in
theorem above_any (T U : Tr) (p : ByteArray) (lo hi : Nat) (ct cu : List Value) (w : World) (hT : Lies lo hi w T ct) (hU : Lies lo hi w U cu) (hhi : hi ≤ w.heap.size) (hF : Fit T) (hG : Fit U) (hp : p.size ≤ 140737488351232) :
    Calls Tryd.prog 3 #[.agg ct.toArray, .string p, .agg cu.toArray] w fun e w' => e = .returned (.bool true) ∧ Below w.heap.size w w' := by
  obtain ⟨kt, xt, at0, nt, ct, bt, mt, dt, et, pt, qt, rfl⟩ := hT.form
  obtain ⟨ku, xu, au, nu, cu, bu, mu, du, eu, pu, qu, rfl⟩ := hU.form
  obtain ⟨wA, hwA⟩ : ∃ wA, wA = ((w.alloc (.cells #[.int .i64 kt, .bool xt, .slice at0 nt ct, .slice bt mt dt, .slice et pt qt] 26)).alloc (.cells #[.int .i64 ku, .bool xu, .slice au nu cu, .slice bu mu du, .slice eu pu qu] 26)).alloc (.cells #[.int .i64 kt, .bool xt, .slice at0 nt ct, .slice bt mt dt, .slice et pt qt, .int .i64 ku, .bool xu, .slice au nu cu, .slice bu mu du, .slice eu pu qu] 26) := ⟨_, rfl⟩
  have hbA : Below w.heap.size w wA := by rw [hwA]; exact (((Below.refl _ _).alloc (Nat.le_refl _) _).alloc (by simp) _).alloc (by simp; omega) _
  have hsA : wA.heap.size = w.heap.size + 1 + 1 + 1 := by rw [hwA]; simp
  have hB : BoxTU w wA (.int .i64 kt) (.bool xt) (.slice at0 nt ct) (.slice bt mt dt) (.slice et pt qt) (.int .i64 ku) (.bool xu) (.slice au nu cu) (.slice bu mu du) (.slice eu pu qu) := by
    refine ⟨hbA, by omega, ?_, ?_⟩
    · rw [hwA]; exact (bx_new w _ _ _ _ _).kept (((Below.refl (w.heap.size + 1) _).alloc (by simp) _).alloc (by simp) _) (by omega)
    · rw [hwA]
      have := (bx_new (w.alloc (.cells #[.int .i64 kt, .bool xt, .slice at0 nt ct, .slice bt mt dt, .slice et pt qt] 26)) (.int .i64 ku) (.bool xu) (.slice au nu cu) (.slice bu mu du) (.slice eu pu qu)).kept ((Below.refl (w.heap.size + 1 + 1) _).alloc (by simp) (.cells #[.int .i64 kt, .bool xt, .slice at0 nt ct, .slice bt mt dt, .slice et pt qt, .int .i64 ku, .bool xu, .slice au nu cu, .slice bu mu du, .slice eu pu qu] 26)) (by simp)
      simpa using this
  have hby : wA.heap[w.heap.size + 1 + 1]? = some (.cells #[.int .i64 kt, .bool xt, .slice at0 nt ct, .slice bt mt dt, .slice et pt qt, .int .i64 ku, .bool xu, .slice au nu cu, .slice bu mu du, .slice eu pu qu] 26) := by
    rw [hwA]
    show (((w.heap.push _).push _).push _)[w.heap.size + 1 + 1]? = _
    rw [Array.getElem?_push, if_pos (by simp)]
  have HH := hide (heavy2 T U lo hi (w.heap.size + 1 + 1) _ _ _ _ _ _ _ _ _ _ wA (hT.kept hbA hhi) (hU.kept hbA hhi) (by omega) hF hG hby)
  have HL := hide (And.intro hT hU)
  have HwA := hide hwA
  have HB := hide hB
  clear hwA hbA hby hT hU hF hG hB
  go_enter Tryd.func3, Tryd.ntmps3
  go_wp2_with fail
  rw [← unhide HwA]
  refine (unhide HH).mono ?_
  rintro e w1 ⟨hb1, hans⟩
  have hs1 := hb1.size
  have HB1 := hide ((unhide HB).kept hb1 (by omega))
  clear hb1 HH HB HwA
  rcases hans with rfl | ⟨rfl, hwt⟩
  · go_wp2_with fail
    go_ret
    exact ⟨rfl, (unhide HB1).b⟩
  by_cases hlen : 600 < p.size
  · go_wp2_with fail
    go_ret
    exact ⟨rfl, (unhide HB1).b⟩
  have hP : p.size ≤ 600 := by omega
  have hs1' := (unhide HB1).s
  have HPu := hide (put_any T U p lo hi lo hi _ _ w1 ((unhide HL).1.kept (unhide HB1).b hhi) ((unhide HL).2.kept (unhide HB1).b hhi) (by omega) (by omega) (by omega) (by omega) (by omega))
  obtain ⟨y0, y1, y2, y3, y4⟩ := (unhide HB1).t.cells
  obtain ⟨z0, z1, z2, z3, z4⟩ := (unhide HB1).x.cells
  go_wp2_with fail
  clear hlen hp
  refine (unhide HPu).mono ?_
  rintro e w2 ⟨hb2, hans⟩
  obtain ⟨ak, ax, aa, an, ac, ba, bn, bc, da, dn, dc, rfl, hLx⟩ := putA_res hans
  have hs2 := hb2.size
  obtain ⟨w3, hw3, hb3, hs3, hx3⟩ := box_new w2 (.int .i64 ak) (.bool ax) (.slice aa an ac) (.slice ba bn bc) (.slice da dn dc)
  have HB3 := hide (((unhide HB1).kept hb2 (by omega)).kept hb3 (by omega))
  have Hw3 := hide hw3
  by_cases hr0 : resN (putS T p U) = 0
  case neg =>
    have hne := ne0 hr0
    clear hr0 hLx hans HPu hw3 hx3 hb2 hb3 y0 y1 y2 y3 y4 z0 z1 z2 z3 z4
    generalize resN (putS T p U) = rn at *
    go_wp2_with fail
    rw [← unhide Hw3]
    refine (known_any _).mono ?_
    rintro e wk ⟨rfl, hbk⟩
    have hsk := hbk.size
    go_wp2_with fail
    go_ret
    exact ⟨rfl, (unhide HB3).b.trans (hbk.mono (by omega))⟩
  case pos =>
  obtain ⟨W, hW⟩ := putS_ok hr0
  rw [hr0]
  rw [hW] at hLx
  have hWt : wt W ≤ 100000 := by have := putS_wt hW; omega
  have HLx := hide (hLx.kept hb3 (Nat.le_refl _))
  have HAb : Hid (∀ A B, p.data.toList = A ++ 47 :: B → ∃ x d ns ks, atE W ⟨A.toArray⟩ = .ok (.mk 2 x d ns ks)) := fun A B h => put_above hW h
  have HCn : Hid (1 ≤ (countS W).1) := by
    have := (putS_laid hW).2.2.2.2
    show _ ≤ _
    unfold countS
    rw [if_pos this]
    exact cn_pos W
  have HX3 := hide hx3
  clear hr0 hans HPu hw3 hb3 y0 y1 y2 y3 y4 z0 z1 z2 z3 z4 hLx hW hx3 hb2 HB1 HL
  go_wp2_with fail
  rw [← unhide Hw3]
  clear Hw3
  go_loopw [9] (fun vi wr => ∃ i : Nat, i ≤ p.size ∧ vi = .int .i64 (i : Int) ∧ Below w3.heap.size w3 wr) (fun vi _ => p.size - (intOf vi).toNat)
  case atStart => exact ⟨0, by omega, rfl, Below.refl _ _⟩
  case round =>
    obtain ⟨i, hiN, rfl, hbr⟩ := hrel
    have hsr := hbr.size
    have hxr := (unhide HX3).kept hbr (by omega)
    obtain ⟨y0, y1, y2, y3, y4⟩ := hxr.cells
    have hlr : w2.heap.size < wr.heap.size := by omega
    by_cases hlt : i < p.size
    · by_cases hsl : p[i] = 47
      · have hcut := cut_slash hlt hsl
        obtain ⟨xd, dd, nsd, ksd, hat⟩ := unhide HAb _ _ hcut
        have hpre : (⟨(p.data.toList.take i).toArray⟩ : ByteArray) = p.extract 0 i := by
          apply ByteArray.ext
          apply Array.ext'
          simp
        rw [hpre] at hat
        have HAt := hide (fun (W1 : World) (h : Below wr.heap.size wr W1) => ats_any W (p.extract 0 i) w1.heap.size w2.heap.size _ W1 (((unhide HLx).kept hbr (by omega)).kept h (by omega)) (by have := h.size; omega) hWt (by rw [ByteArray.size_extract]; omega))
        rw [hat] at HAt
        have heq : ((p[i].toNat : Int) == 47) = true := by rw [hsl]; rfl
        clear hat hcut hpre
        generalize hpe : p.extract 0 i = pe at *
        go_wp2_with fail
        apply one_way
        case go =>
          intro key
          have hbbwr : Below wr.heap.size wr wr := Below.refl _ _
          refine wp_region_noPanic ?_
          refine wp_region_held_drew (S := fun w' => Bx w' w2.heap.size (.int .i64 ak) (.bool ax) (.slice aa an ac) (.slice ba bn bc) (.slice da dn dc)) (by kernel_rfl) hxr (fun hHeld => ?_)
          refine wpAnyH_take (i := 0) (v := .agg #[.int .i64 ak, .bool ax, .slice aa an ac, .slice ba bn bc, .slice da dn dc]) rfl (by kernel_rfl) (by kernel_rfl) (by kernel_rfl) (fun _ _ _ h => h) (Or.inl ⟨by rfl, ?_⟩) hHeld ?_
          · intro w' hS'; obtain ⟨t0, t1, t2, t3, t4⟩ := Bx.cells hS'; go_simp
          try simp only [Act.put, List.getElem_toArray, List.getElem_cons_zero, List.getElem_cons_succ, List.setIfInBounds_toArray, List.set_cons_zero, List.set_cons_succ]
          refine wpAnyH_take (i := 1) (v := .string p) rfl (by kernel_rfl) (by kernel_rfl) (by kernel_rfl) (fun _ _ _ h => h) (Or.inl ⟨by rfl, ?_⟩) hHeld ?_
          · intro w' hS'; go_simp
          try simp only [Act.put, List.getElem_toArray, List.getElem_cons_zero, List.getElem_cons_succ, List.setIfInBounds_toArray, List.set_cons_zero, List.set_cons_succ]
          refine wpAnyH_take (i := 2) (v := .int .i64 (i : Int)) rfl (by kernel_rfl) (by kernel_rfl) (by kernel_rfl) (fun _ _ _ h => h) (Or.inl ⟨by rfl, ?_⟩) hHeld ?_
          · intro w' hS'; go_simp
          try simp only [Act.put, List.getElem_toArray, List.getElem_cons_zero, List.getElem_cons_succ, List.setIfInBounds_toArray, List.set_cons_zero, List.set_cons_succ]
          refine wpAnyH_take (i := 3) (v := .string pe) rfl (by kernel_rfl) (by kernel_rfl) (by kernel_rfl) (fun _ _ _ h => h) (Or.inl ⟨by rfl, ?_⟩) hHeld ?_
          · intro w' hS'; go_simp
          try simp only [Act.put, List.getElem_toArray, List.getElem_cons_zero, List.getElem_cons_succ, List.setIfInBounds_toArray, List.set_cons_zero, List.set_cons_succ]
          refine wpAnyH_ready (rs := [4, 8]) (by kernel_rfl) (by simp) (AllReadyH.cons rfl (fun K hK => ?_) (AllReadyH.cons rfl (fun K hK => ?_) AllReadyH.nil))
          · skip
            simp only [List.getElem_toArray, List.getElem_cons_zero, List.getElem_cons_succ]
            go_simp
            refine (unhide HAt wr.drew (Below.refl _ _).drew).mono ?_
            rintro e w4 ⟨hbw4, hans⟩
            obtain ⟨x', g1, g2, g3, g4, g5, g6, g7, g8, g9, rfl⟩ := own_kind hans
            clear hans
            have hBw4 : Below wr.heap.size wr w4 := below_drew' hbw4
            have hsw4 := hBw4.size
            have hbbw4 : Below wr.heap.size wr w4 := hbbwr.trans (hBw4.mono (by omega))
            refine hK.out _ _ (hxr.kept hbbw4 (by omega)) (fun hHeld => ?_)
            clear hK K hbw4
            try simp only [Act.put, List.getElem_toArray, List.getElem_cons_zero, List.getElem_cons_succ, List.setIfInBounds_toArray, List.set_cons_zero, List.set_cons_succ]
            refine wpAnyH_take (i := 5) (v := .tuple #[.agg #[.int .i64 2, .bool x', .slice g1 g2 g3, .slice g4 g5 g6, .slice g7 g8 g9], .int .i64 0]) rfl (by kernel_rfl) (by kernel_rfl) (by kernel_rfl) (fun _ _ _ h => h) (Or.inl ⟨by rfl, ?_⟩) hHeld ?_
            · intro w' hS'; go_simp
            try simp only [Act.put, List.getElem_toArray, List.getElem_cons_zero, List.getElem_cons_succ, List.setIfInBounds_toArray, List.set_cons_zero, List.set_cons_succ]
            refine wpAnyH_take (i := 6) (v := .agg #[.int .i64 2, .bool x', .slice g1 g2 g3, .slice g4 g5 g6, .slice g7 g8 g9]) rfl (by kernel_rfl) (by kernel_rfl) (by kernel_rfl) (fun _ _ _ h => h) (Or.inl ⟨by rfl, ?_⟩) hHeld ?_
            · intro w' hS'; go_simp
            try simp only [Act.put, List.getElem_toArray, List.getElem_cons_zero, List.getElem_cons_succ, List.setIfInBounds_toArray, List.set_cons_zero, List.set_cons_succ]
            refine wpAnyH_take (i := 7) (v := .int .i64 0) rfl (by kernel_rfl) (by kernel_rfl) (by kernel_rfl) (fun _ _ _ h => h) (Or.inl ⟨by rfl, ?_⟩) hHeld ?_
            · intro w' hS'; go_simp
            try simp only [Act.put, List.getElem_toArray, List.getElem_cons_zero, List.getElem_cons_succ, List.setIfInBounds_toArray, List.set_cons_zero, List.set_cons_succ]
            refine wpAnyH_ready (rs := [8]) (by kernel_rfl) (by simp) (AllReadyH.cons rfl (fun K hK => ?_) AllReadyH.nil)
            simp only [List.getElem_toArray, List.getElem_cons_zero, List.getElem_cons_succ]
            go_simp
            obtain ⟨wb, hwb⟩ : ∃ W, W = w4.alloc (.cells #[.int .i64 0, .bool false, .slice none 0 0, .slice none 0 0, .slice none 0 0] 26) := ⟨_, rfl⟩
            rw [← hwb]
            have hbwb : Below w4.heap.size w4 wb := by rw [hwb]; exact ⟨rfl, rfl, rfl, by simp, fun k hk => Below.heap_alloc _ _ _ hk⟩
            have hswb : wb.heap.size = w4.heap.size + 1 := by rw [hwb]; simp
            have hywb : Bx wb w4.heap.size (.int .i64 0) (.bool false) (.slice none 0 0) (.slice none 0 0) (.slice none 0 0) := by rw [hwb]; exact bx_new _ _ _ _ _ _
            clear hwb
            have hbbwb : Below wr.heap.size wr wb := hbbw4.trans (hbwb.mono (by omega))
            refine hK.out _ _ (hxr.kept hbbwb (by omega)) (fun hHeld => ?_)
            clear hK K
            try simp only [Act.put, List.getElem_toArray, List.getElem_cons_zero, List.getElem_cons_succ, List.setIfInBounds_toArray, List.set_cons_zero, List.set_cons_succ]
            have hY := hywb
            obtain ⟨o0, o1, o2, o3, o4⟩ := hY.cells
            have of0 := hY.fr 0
            have of1 := hY.fr 1
            have of2 := hY.fr 2
            have of3 := hY.fr 3
            have of4 := hY.fr 4
            refine wpAnyH_ready (rs := [9]) (by kernel_rfl) (by simp) (AllReadyH.cons rfl (fun K hK => ?_) AllReadyH.nil)
            simp only [List.getElem_toArray, List.getElem_cons_zero, List.getElem_cons_succ]
            go_simp
            rw [set5_eq]
            obtain ⟨by', hby⟩ : ∃ b, b = w4.heap.size := ⟨_, rfl⟩
            rw [← hby]
            rw [← hby] at hY
            have HF : Hid (Below w3.heap.size w3 (set5 wb by' (.int .i64 2) (.bool x') (.slice g1 g2 g3) (.slice g4 g5 g6) (.slice g7 g8 g9)) ∧ Bx (set5 wb by' (.int .i64 2) (.bool x') (.slice g1 g2 g3) (.slice g4 g5 g6) (.slice g7 g8 g9)) by' (.int .i64 2) (.bool x') (.slice g1 g2 g3) (.slice g4 g5 g6) (.slice g7 g8 g9) ∧ by' < (set5 wb by' (.int .i64 2) (.bool x') (.slice g1 g2 g3) (.slice g4 g5 g6) (.slice g7 g8 g9)).heap.size) := ⟨below_set5 (hbr.trans (hbbwb.mono (by omega))) (by omega) _ _ _ _ _, hY.set5 _ _ _ _ _, by rw [set5_size]; omega⟩
            have hS9 : Bx (set5 wb by' (.int .i64 2) (.bool x') (.slice g1 g2 g3) (.slice g4 g5 g6) (.slice g7 g8 g9)) w2.heap.size (.int .i64 ak) (.bool ax) (.slice aa an ac) (.slice ba bn bc) (.slice da dn dc) := (hxr.kept hbbwb (by omega)).of (set5_other _ _ _ _ _ _ _ _ (by omega))
            generalize set5 wb by' (.int .i64 2) (.bool x') (.slice g1 g2 g3) (.slice g4 g5 g6) (.slice g7 g8 g9) = W' at *
            refine hK.out _ _ hS9 (fun hHeld => ?_)
            clear hK K
            try simp only [Act.put, List.getElem_toArray, List.getElem_cons_zero, List.getElem_cons_succ, List.setIfInBounds_toArray, List.set_cons_zero, List.set_cons_succ]
            refine wpAnyH_take (i := 10) (v := .int .i64 0) rfl (by kernel_rfl) (by kernel_rfl) (by kernel_rfl) (fun _ _ _ h => h) (Or.inl ⟨by rfl, ?_⟩) hHeld ?_
            · intro w' hS'; go_simp
            try simp only [Act.put, List.getElem_toArray, List.getElem_cons_zero, List.getElem_cons_succ, List.setIfInBounds_toArray, List.set_cons_zero, List.set_cons_succ]
            refine wpAnyH_done (by kernel_rfl) ?_ _
            refine NoPanic.normal ?_
            clear hHeld hS9 hY hby o0 o1 o2 o3 o4 of0 of1 of2 of3 of4
            clear hBw4 hsw4 hbbw4 hbbwr hbwb hswb hywb hbbwb
            revert W' by'
            revert x' g1 g2 g3 g4 g5 g6 g7 g8 g9
            exact unhide key
          · skip
            simp only [List.getElem_toArray, List.getElem_cons_zero, List.getElem_cons_succ]
            go_simp
            obtain ⟨wa, hwa⟩ : ∃ W, W = (wr.alloc (.cells #[.int .i64 0, .bool false, .slice none 0 0, .slice none 0 0, .slice none 0 0] 26)).drew := ⟨_, rfl⟩
            rw [← hwa]
            have hbwa : Below wr.heap.size wr wa := by rw [hwa]; exact ⟨rfl, rfl, rfl, by simp, fun k hk => Below.heap_alloc _ _ _ hk⟩
            have hswa : wa.heap.size = wr.heap.size + 1 := by rw [hwa]; simp
            have hywa : Bx wa wr.heap.size (.int .i64 0) (.bool false) (.slice none 0 0) (.slice none 0 0) (.slice none 0 0) := by rw [hwa]; exact bx_new _ _ _ _ _ _
            clear hwa
            have hbbwa : Below wr.heap.size wr wa := hbbwr.trans (hbwa.mono (by omega))
            refine hK.out _ _ (hxr.kept hbbwa (by omega)) (fun hHeld => ?_)
            clear hK K
            try simp only [Act.put, List.getElem_toArray, List.getElem_cons_zero, List.getElem_cons_succ, List.setIfInBounds_toArray, List.set_cons_zero, List.set_cons_succ]
            refine wpAnyH_ready (rs := [4]) (by kernel_rfl) (by simp) (AllReadyH.cons rfl (fun K hK => ?_) AllReadyH.nil)
            simp only [List.getElem_toArray, List.getElem_cons_zero, List.getElem_cons_succ]
            go_simp
            refine (unhide HAt _ hbbwa).mono ?_
            rintro e w4 ⟨hbw4, hans⟩
            obtain ⟨x', g1, g2, g3, g4, g5, g6, g7, g8, g9, rfl⟩ := own_kind hans
            clear hans
            have hBw4 : Below wa.heap.size wa w4 := hbw4
            have hsw4 := hBw4.size
            have hbbw4 : Below wr.heap.size wr w4 := hbbwa.trans (hBw4.mono (by omega))
            refine hK.out _ _ (hxr.kept hbbw4 (by omega)) (fun hHeld => ?_)
            clear hK K hbw4
            try simp only [Act.put, List.getElem_toArray, List.getElem_cons_zero, List.getElem_cons_succ, List.setIfInBounds_toArray, List.set_cons_zero, List.set_cons_succ]
            refine wpAnyH_take (i := 5) (v := .tuple #[.agg #[.int .i64 2, .bool x', .slice g1 g2 g3, .slice g4 g5 g6, .slice g7 g8 g9], .int .i64 0]) rfl (by kernel_rfl) (by kernel_rfl) (by kernel_rfl) (fun _ _ _ h => h) (Or.inl ⟨by rfl, ?_⟩) hHeld ?_
            · intro w' hS'; go_simp
            try simp only [Act.put, List.getElem_toArray, List.getElem_cons_zero, List.getElem_cons_succ, List.setIfInBounds_toArray, List.set_cons_zero, List.set_cons_succ]
            refine wpAnyH_take (i := 6) (v := .agg #[.int .i64 2, .bool x', .slice g1 g2 g3, .slice g4 g5 g6, .slice g7 g8 g9]) rfl (by kernel_rfl) (by kernel_rfl) (by kernel_rfl) (fun _ _ _ h => h) (Or.inl ⟨by rfl, ?_⟩) hHeld ?_
            · intro w' hS'; go_simp
            try simp only [Act.put, List.getElem_toArray, List.getElem_cons_zero, List.getElem_cons_succ, List.setIfInBounds_toArray, List.set_cons_zero, List.set_cons_succ]
            refine wpAnyH_take (i := 7) (v := .int .i64 0) rfl (by kernel_rfl) (by kernel_rfl) (by kernel_rfl) (fun _ _ _ h => h) (Or.inl ⟨by rfl, ?_⟩) hHeld ?_
            · intro w' hS'; go_simp
            try simp only [Act.put, List.getElem_toArray, List.getElem_cons_zero, List.getElem_cons_succ, List.setIfInBounds_toArray, List.set_cons_zero, List.set_cons_succ]
            have hY := (hywa.kept hBw4 (by omega))
            obtain ⟨o0, o1, o2, o3, o4⟩ := hY.cells
            have of0 := hY.fr 0
            have of1 := hY.fr 1
            have of2 := hY.fr 2
            have of3 := hY.fr 3
            have of4 := hY.fr 4
            refine wpAnyH_ready (rs := [9]) (by kernel_rfl) (by simp) (AllReadyH.cons rfl (fun K hK => ?_) AllReadyH.nil)
            simp only [List.getElem_toArray, List.getElem_cons_zero, List.getElem_cons_succ]
            go_simp
            rw [set5_eq]
            obtain ⟨by', hby⟩ : ∃ b, b = wr.heap.size := ⟨_, rfl⟩
            rw [← hby]
            rw [← hby] at hY
            have HF : Hid (Below w3.heap.size w3 (set5 w4 by' (.int .i64 2) (.bool x') (.slice g1 g2 g3) (.slice g4 g5 g6) (.slice g7 g8 g9)) ∧ Bx (set5 w4 by' (.int .i64 2) (.bool x') (.slice g1 g2 g3) (.slice g4 g5 g6) (.slice g7 g8 g9)) by' (.int .i64 2) (.bool x') (.slice g1 g2 g3) (.slice g4 g5 g6) (.slice g7 g8 g9) ∧ by' < (set5 w4 by' (.int .i64 2) (.bool x') (.slice g1 g2 g3) (.slice g4 g5 g6) (.slice g7 g8 g9)).heap.size) := ⟨below_set5 (hbr.trans (hbbw4.mono (by omega))) (by omega) _ _ _ _ _, hY.set5 _ _ _ _ _, by rw [set5_size]; omega⟩
            have hS9 : Bx (set5 w4 by' (.int .i64 2) (.bool x') (.slice g1 g2 g3) (.slice g4 g5 g6) (.slice g7 g8 g9)) w2.heap.size (.int .i64 ak) (.bool ax) (.slice aa an ac) (.slice ba bn bc) (.slice da dn dc) := (hxr.kept hbbw4 (by omega)).of (set5_other _ _ _ _ _ _ _ _ (by omega))
            generalize set5 w4 by' (.int .i64 2) (.bool x') (.slice g1 g2 g3) (.slice g4 g5 g6) (.slice g7 g8 g9) = W' at *
            refine hK.out _ _ hS9 (fun hHeld => ?_)
            clear hK K
            try simp only [Act.put, List.getElem_toArray, List.getElem_cons_zero, List.getElem_cons_succ, List.setIfInBounds_toArray, List.set_cons_zero, List.set_cons_succ]
            refine wpAnyH_take (i := 10) (v := .int .i64 0) rfl (by kernel_rfl) (by kernel_rfl) (by kernel_rfl) (fun _ _ _ h => h) (Or.inl ⟨by rfl, ?_⟩) hHeld ?_
            · intro w' hS'; go_simp
            try simp only [Act.put, List.getElem_toArray, List.getElem_cons_zero, List.getElem_cons_succ, List.setIfInBounds_toArray, List.set_cons_zero, List.set_cons_succ]
            refine wpAnyH_done (by kernel_rfl) ?_ _
            refine NoPanic.normal ?_
            clear hHeld hS9 hY hby o0 o1 o2 o3 o4 of0 of1 of2 of3 of4
            clear hBw4 hsw4 hbbw4 hbwa hswa hywa hbbwa hbbwr
            revert W' by'
            revert x' g1 g2 g3 g4 g5 g6 g7 g8 g9
            exact unhide key
        case all =>
          intro x' g1 g2 g3 g4 g5 g6 g7 g8 g9 by' W' HF
          obtain ⟨o0, o1, o2, o3, o4⟩ := (unhide HF).2.1.cells
          clear hbr hxr y0 y1 y2 y3 y4 HAt
          go_wp2_with fail
          go_roundw
          case rel => exact ⟨i + 1, by omega, by go_num, (unhide HF).1⟩
          case measure => simp [intOf]; try omega
      · have hne : ((p[i].toNat : Int) == 47) = false := by
          rw [beq_eq_false_iff_ne]
          intro e
          exact hsl (by apply UInt8.toNat_inj.1; exact_mod_cast e)
        have Hbr := hide hbr
        clear hbr
        go_wp2_with fail
        go_roundw
        case rel => exact ⟨i + 1, by omega, by go_num, unhide Hbr⟩
        case measure => simp [intOf]; try omega
    · have HC := hide (counts_any W w1.heap.size w2.heap.size _ wr ((unhide HLx).kept hbr (by omega)) hWt (by omega))
      have hcn := unhide HCn
      have hge : (1 : Int) ≤ (((countS W).1 : Nat) : Int) := by omega
      have HBr := hide ((unhide HB3).b.trans (hbr.mono (by omega)))
      clear hbr
      generalize (countS W).1 = n1 at *
      generalize (countS W).2 = n2 at *
      go_wp2_with fail
      refine (unhide HC).mono ?_
      rintro e w9 ⟨rfl, hb9⟩
      have hs9 := hb9.size
      have HB9 := hide ((unhide HBr).trans (hb9.mono (by omega)))
      clear hb9 HC y0 y1 y2 y3 y4
      go_wp2_with fail
      refine (known_any _).mono ?_
      rintro e wk ⟨rfl, hbk⟩
      have hsk := hbk.size
      go_wp2_with fail
      go_ret
      exact ⟨rfl, (unhide HB9).trans (hbk.mono (by omega))⟩
end Go.Proofs.YthfjofmfiklegabDoor
