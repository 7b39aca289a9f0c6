/- At, in the code. -/
import Derived.Test.YthfjofmfiklegaaDoorAt
import Derived.Test.YthfjofmfiklegaaDoorK5
namespace Go.Proofs.YthfjofmfiklegaaDoor
open Go.RowKit
/-- At, or why not. -/
noncomputable def atE (T : Tr) (s : ByteArray) : Except Nat Tr :=
  if (chk T 1 0).1 ≠ 0 then .error (chk T 1 0).1 else if isPl s = false then .error 9 else
    match atS T (placeL s) with
    | none => .error 7
    | some W => .ok W
theorem atS_nice (l : List ByteArray) : ∀ {T U : Tr}, atS T l = some U → Nice T → wt T ≤ 100000 → Nice U ∧ wt U ≤ 100000 := by
  induction l with
  | nil => intro T U h hN hW; cases T; rw [atS] at h; cases h; exact ⟨hN, hW⟩
  | cons a r ih =>
    intro T U h hN hW
    cases hN with
    | mk k x d ns ks hr hl hk =>
    rw [atS] at h
    split at h
    · exact ih h (kidAt_nice hk) (kidAt_wt (small_of hW).t)
    · cases h
/-- The two boxes. -/
structure Box2 (w W : World) (t0 t1 t2 t3 t4 : Value) : Prop where
  b : Below w.heap.size w W
  s : w.heap.size + 1 + 1 ≤ W.heap.size
  t : Bx W w.heap.size t0 t1 t2 t3 t4
  r : Bx W (w.heap.size + 1) (.int .i64 0) (.bool false) (.slice none 0 0) (.slice none 0 0) (.slice none 0 0)
theorem Box2.kept {w W W' : World} {t0 t1 t2 t3 t4 : Value} (h : Box2 w W t0 t1 t2 t3 t4) {B : Nat} (hb : Below B W W') (hB : w.heap.size + 1 + 1 ≤ B) : Box2 w W' t0 t1 t2 t3 t4 :=
  ⟨h.b.trans (hb.mono (by omega)), by have := h.s; have := hb.size; omega, h.t.kept hb (by omega), h.r.kept hb (by omega)⟩
theorem box2_new (w : World) (t0 t1 t2 t3 t4 : Value) : Box2 w ((w.alloc (.cells #[t0, t1, t2, t3, t4] 26)).alloc (.cells #[.int .i64 0, .bool false, .slice none 0 0, .slice none 0 0, .slice none 0 0] 26)) t0 t1 t2 t3 t4 := by
  refine ⟨((Below.refl _ _).alloc (Nat.le_refl _) _).alloc (by simp) _, by simp, ?_, ?_⟩
  · exact (bx_new w _ _ _ _ _).kept ((Below.refl (w.heap.size + 1) _).alloc (by simp) _) (by omega)
  · have := bx_new (w.alloc (.cells #[t0, t1, t2, t3, t4] 26)) (.int .i64 0) (.bool false) (.slice none 0 0) (.slice none 0 0) (.slice none 0 0)
    simpa using this
set_option maxRecDepth 20000 in
set_option maxHeartbeats 2000000 in
theorem ats_any (T : Tr) (s : ByteArray) (lo hi : Nat) (cs : List Value) (w : World) (hL : Lies lo hi w T cs) (hhi : hi ≤ w.heap.size) (hW : wt T ≤ 100000) (hsz : s.size ≤ 1000000) :
    Calls Tryd.prog 22 #[.agg cs.toArray, .string s] w fun e w' => Below w.heap.size w w' ∧ PutA w.heap.size (atE T s) e w' := by
  obtain ⟨kt, xt, at0, nt, ct, bt, mt, dt, et, pt, qt, rfl⟩ := hL.form
  have HT := hide hL
  have HC1 := hide (fun W (h : Below w.heap.size w W) => check_any T lo hi _ W (hL.kept h hhi) hW (by have := h.size; omega))
  have HP := hide (fun W => isPlace_any s W hsz)
  have HLa := hide (fun (W : World) (h : Below w.heap.size w W) (hn : Nice T) (hp : isPl s = true) => at_any (placeL s) T lo hi _ W (hL.kept h hhi) (by have := h.size; omega) hn hW (isPl_ent hp) (by rw [placeL_join]; exact hsz))
  rw [placeL_join] at HLa
  have HS : Hid (atE T s = if (chk T 1 0).1 ≠ 0 then .error (chk T 1 0).1 else if isPl s = false then .error 9 else
    match atS T (placeL s) with
    | none => .error 7
    | some W => .ok W) := rfl
  have HW := hide hW
  have hB := box2_new w (.int .i64 kt) (.bool xt) (.slice at0 nt ct) (.slice bt mt dt) (.slice et pt qt)
  obtain ⟨wA, hwA⟩ : ∃ wA, wA = ((w.alloc (.cells #[.int .i64 kt, .bool xt, .slice at0 nt ct, .slice bt mt dt, .slice et pt qt] 26)).alloc (.cells #[.int .i64 0, .bool false, .slice none 0 0, .slice none 0 0, .slice none 0 0] 26)) := ⟨_, rfl⟩
  rw [← hwA] at hB
  have HB := hide hB
  have HwA := hide hwA
  clear hL hW hsz hB hwA
  go_enter Tryd.func22, Tryd.ntmps22
  go_wp2_with fail
  rw [← unhide HwA]
  refine (unhide HC1 wA (unhide HB).b).mono ?_
  rintro e w1 ⟨rfl, hb1⟩
  have HB1 := hide ((unhide HB).kept hb1 (unhide HB).s)
  clear HC1 HB HwA hb1
  by_cases hc1 : (chk T 1 0).1 = 0
  case neg =>
    have hn1 := ne0 hc1
    have HSr : Hid (atE T s = .error (chk T 1 0).1) := by show _ = _; rw [unhide HS, if_pos hc1]
    obtain ⟨r0, r1, r2, r3, r4⟩ := (unhide HB1).r.cells
    have rf0 := (unhide HB1).r.fr 0
    have rf1 := (unhide HB1).r.fr 1
    have rf2 := (unhide HB1).r.fr 2
    have rf3 := (unhide HB1).r.fr 3
    have rf4 := (unhide HB1).r.fr 4
    clear hc1
    generalize (chk T 1 0).1 = c1 at *
    go_wp2_with fail
    rw [unhide HSr]
    refine bodyPost_ret (v := .tuple #[.agg zeroT.toArray, .int .i64 (c1 : Int)]) (by simp [results, Tryd.results22, go_sem, zeroT, r0, r1, r2, r3, r4]) rfl ⟨?_, rfl⟩
    exact below_set5 (unhide HB1).b (by omega) _ _ _ _ _
  case pos =>
  have HN := hide (chk_nice T hc1)
  rw [if_neg (by simp [hc1])] at HS
  rw [hc1]
  clear hc1
  go_wp2_with fail
  refine (unhide HP w1).mono ?_
  rintro e w3 ⟨hb3, hpl⟩
  have HB3 := hide ((unhide HB1).kept hb3 (unhide HB1).s)
  clear HP HB1 hb3
  rcases hpl with ⟨rfl, hpl⟩ | ⟨rfl, hpl⟩
  case inr =>
    have HSr : Hid (atE T s = .error 9) := by show _ = _; rw [unhide HS, if_pos (isPl_no hpl)]
    obtain ⟨r0, r1, r2, r3, r4⟩ := (unhide HB3).r.cells
    have rf0 := (unhide HB3).r.fr 0
    have rf1 := (unhide HB3).r.fr 1
    have rf2 := (unhide HB3).r.fr 2
    have rf3 := (unhide HB3).r.fr 3
    have rf4 := (unhide HB3).r.fr 4
    clear hpl
    go_wp2_with fail
    rw [unhide HSr]
    refine bodyPost_ret (v := .tuple #[.agg zeroT.toArray, .int .i64 9]) (by simp [results, Tryd.results22, go_sem, zeroT, r0, r1, r2, r3, r4]) rfl ⟨?_, rfl⟩
    exact below_set5 (unhide HB3).b (by omega) _ _ _ _ _
  case inl =>
  have hip := isPl_yes hpl
  rw [if_neg (by simp [hip])] at HS
  have HL3 := hide (unhide HLa w3 (unhide HB3).b (unhide HN) hip)
  obtain ⟨z0, z1, z2, z3, z4⟩ := (unhide HB3).t.cells
  clear HLa hpl hip
  go_wp2_with fail
  refine (unhide HL3).mono ?_
  rintro e w4 ⟨hb4, hans⟩
  have HB4 := hide ((unhide HB3).kept hb4 (unhide HB3).s)
  have hs4 := hb4.size
  have hs3 := (unhide HB3).s
  clear HL3 HB3 hb4 z0 z1 z2 z3 z4
  have hlt4 : w.heap.size + 1 < w4.heap.size := by omega
  have hne4 : w.heap.size + 1 ≠ w4.heap.size := by omega
  cases hlr : atS T (placeL s) with
  | none =>
    rw [hlr] at hans HS
    have he : e = .returned (.tuple #[.agg zeroT.toArray, .bool false]) := hans
    subst he
    have HSr : Hid (atE T s = .error 7) := unhide HS
    obtain ⟨r0, r1, r2, r3, r4⟩ := (unhide HB4).r.cells
    have rf0 := (unhide HB4).r.fr 0
    have rf1 := (unhide HB4).r.fr 1
    have rf2 := (unhide HB4).r.fr 2
    have rf3 := (unhide HB4).r.fr 3
    have rf4 := (unhide HB4).r.fr 4
    clear hans hlr
    unfold zeroT
    go_wp2_with fail
    rw [unhide HSr]
    refine bodyPost_ret (v := .tuple #[.agg zeroT.toArray, .int .i64 7]) (by simp [results, Tryd.results22, go_sem, zeroT, r0, r1, r2, r3, r4, hlt4]) rfl ⟨?_, rfl⟩
    exact (below_set5 (unhide HB4).b (by omega) _ _ _ _ _).alloc (by rw [set5_size]; omega) _
  | some W =>
    have HWn := hide (atS_nice _ hlr (unhide HN) (unhide HW))
    rw [hlr] at hans HS
    obtain ⟨cs', rfl, hL'⟩ : ∃ cs : List Value, e = .returned (.tuple #[.agg cs.toArray, .bool true]) ∧ Lies lo hi w4 W cs := hans
    obtain ⟨j0, j1, f1, g1, h1, f2, g2, h2, f3, g3, h3, rfl⟩ := hL'.form
    have HL' := hide hL'
    have HSr : Hid (atE T s = .ok W) := unhide HS
    clear hlr hL'
    go_wp2_with fail
    obtain ⟨w5, hw5⟩ : ∃ w5, w5 = w4.alloc (.cells #[.int .i64 j0, .bool j1, .slice f1 g1 h1, .slice f2 g2 h2, .slice f3 g3 h3] 26) := ⟨_, rfl⟩
    have hb45 : Below w4.heap.size w4 w5 := by rw [hw5]; exact (Below.refl _ _).alloc (Nat.le_refl _) _
    have hs5 : w5.heap.size = w4.heap.size + 1 := by rw [hw5]; simp
    have HB5 := hide ((unhide HB4).kept hb45 (by omega))
    have HCl := hide (clone_any W lo hi _ w5 ((unhide HL').kept hb45 (by omega)) (unhide HWn).2 (by omega) (unhide HWn).1.ev)
    rw [← hw5]
    clear hw5 HB4 HL' hb45
    refine (unhide HCl).mono ?_
    rintro e w7 ⟨c7, rfl, hb7, hO⟩
    obtain ⟨q0, q1, f4, g4, h4, f5, g5, h5, f6, g6, h6, rfl⟩ := hO.lies.form
    have hs7 := hb7.size
    have HB7 := hide ((unhide HB5).kept hb7 (by omega))
    obtain ⟨r0, r1, r2, r3, r4⟩ := (unhide HB7).r.cells
    have rf0 := (unhide HB7).r.fr 0
    have rf1 := (unhide HB7).r.fr 1
    have rf2 := (unhide HB7).r.fr 2
    have rf3 := (unhide HB7).r.fr 3
    have rf4 := (unhide HB7).r.fr 4
    have HO := hide hO
    clear hO hb7 HB5 HCl
    go_wp2_with fail
    rw [unhide HSr]
    refine bodyPost_ret (v := .tuple #[.agg #[.int .i64 q0, .bool q1, .slice f4 g4 h4, .slice f5 g5 h5, .slice f6 g6 h6], .int .i64 0]) (by simp [results, Tryd.results22, go_sem, r0, r1, r2, r3, r4]) rfl ⟨?_, ?_⟩
    · exact below_set5 (unhide HB7).b (by omega) _ _ _ _ _
    · refine ⟨[.int .i64 q0, .bool q1, .slice f4 g4 h4, .slice f5 g5 h5, .slice f6 g6 h6], rfl, ?_⟩
      rw [set5_eq]
      exact ((unhide HO).same (fun k h1 h2 => set5_other _ _ _ _ _ _ _ _ (by omega))).mono (by omega) (by rw [set5_size]; omega)
end Go.Proofs.YthfjofmfiklegaaDoor
