/- Put, in the code. -/
import Derived.Test.YthfjofmfiklegaaDoorPutS
import Derived.Test.YthfjofmfiklegaaDoorLaid
namespace Go.Proofs.YthfjofmfiklegaaDoor
open Go.RowKit
/-- What Put answers. -/
def PutA (B : Nat) (r : Except Nat Tr) (e : Ending) (w' : World) : Prop := match r with
  | .error n => e = .returned (.tuple #[.agg zeroT.toArray, .int .i64 (n : Int)])
  | .ok W => ∃ cs : List Value, e = .returned (.tuple #[.agg cs.toArray, .int .i64 0]) ∧ Own w' B w'.heap.size W cs
/-- The three boxes. -/
structure Box3 (w W : World) (t0 t1 t2 t3 t4 x0 x1 x2 x3 x4 : Value) : Prop where
  b : Below w.heap.size w W
  s : w.heap.size + 1 + 1 + 1 ≤ W.heap.size
  t : Bx W w.heap.size t0 t1 t2 t3 t4
  x : Bx W (w.heap.size + 1) x0 x1 x2 x3 x4
  r : Bx W (w.heap.size + 1 + 1) (.int .i64 0) (.bool false) (.slice none 0 0) (.slice none 0 0) (.slice none 0 0)
theorem Box3.kept {w W W' : World} {t0 t1 t2 t3 t4 x0 x1 x2 x3 x4 : Value} (h : Box3 w W t0 t1 t2 t3 t4 x0 x1 x2 x3 x4) {B : Nat} (hb : Below B W W') (hB : w.heap.size + 1 + 1 + 1 ≤ B) : Box3 w W' t0 t1 t2 t3 t4 x0 x1 x2 x3 x4 :=
  ⟨h.b.trans (hb.mono (by omega)), by have := h.s; have := hb.size; omega, h.t.kept hb (by omega), h.x.kept hb (by omega), h.r.kept hb (by omega)⟩
theorem box3_new (w : World) (t0 t1 t2 t3 t4 x0 x1 x2 x3 x4 : Value) : Box3 w (((w.alloc (.cells #[t0, t1, t2, t3, t4] 26)).alloc (.cells #[x0, x1, x2, x3, x4] 26)).alloc (.cells #[.int .i64 0, .bool false, .slice none 0 0, .slice none 0 0, .slice none 0 0] 26)) t0 t1 t2 t3 t4 x0 x1 x2 x3 x4 := by
  refine ⟨(((Below.refl _ _).alloc (Nat.le_refl _) _).alloc (by simp) _).alloc (by simp; omega) _, by simp, ?_, ?_, ?_⟩
  · exact (bx_new w _ _ _ _ _).kept (((Below.refl (w.heap.size + 1) _).alloc (by simp) _).alloc (by simp) _) (by omega)
  · have := (bx_new (w.alloc (.cells #[t0, t1, t2, t3, t4] 26)) x0 x1 x2 x3 x4).kept ((Below.refl (w.heap.size + 1 + 1) _).alloc (by simp) (.cells #[.int .i64 0, .bool false, .slice none 0 0, .slice none 0 0, .slice none 0 0] 26)) (by simp)
    simpa using this
  · have := bx_new ((w.alloc (.cells #[t0, t1, t2, t3, t4] 26)).alloc (.cells #[x0, x1, x2, x3, x4] 26)) (.int .i64 0) (.bool false) (.slice none 0 0) (.slice none 0 0) (.slice none 0 0)
    simpa using this
theorem ne0 {n : Nat} (h : ¬ n = 0) : (((n : Nat) : Int) == 0) = false := by rw [beq_eq_false_iff_ne]; omega
set_option maxRecDepth 20000 in
set_option maxHeartbeats 2000000 in
theorem put_any (T X : Tr) (s : ByteArray) (lo hi lo' hi' : Nat) (cs cx : List Value) (w : World) (hL : Lies lo hi w T cs) (hX : Lies lo' hi' w X cx) (hhi : hi ≤ w.heap.size) (hhi' : hi' ≤ w.heap.size) (hW : wt T ≤ 40000) (hWX : wt X ≤ 40000) (hsz : s.size ≤ 1000000) :
    Calls Tryd.prog 25 #[.agg cs.toArray, .string s, .agg cx.toArray] w fun e w' => Below w.heap.size w w' ∧ PutA w.heap.size (putS T s X) e w' := by
  obtain ⟨kt, xt, at0, nt, ct, bt, mt, dt, et, pt, qt, rfl⟩ := hL.form
  obtain ⟨kx, xx, ax, nx, cxx, bx, mx, dx, ex, px, qx, rfl⟩ := hX.form
  have HT := hide (And.intro hL hX)
  have HC1 := hide (fun W (h : Below w.heap.size w W) => check_any T lo hi _ W (hL.kept h hhi) (by omega) (by have := h.size; omega))
  have HC2 := hide (fun W (h : Below w.heap.size w W) => check_any X lo' hi' _ W (hX.kept h hhi') (by omega) (by have := h.size; omega))
  have HP := hide (fun W => isPlace_any s W hsz)
  have HLa := hide (fun (W : World) (h : Below w.heap.size w W) (hn : Nice T) (hp : isPl s = true) => laid_any w.heap.size (placeL s) T X lo hi lo' hi' 1 _ _ W (hL.kept h hhi) (hX.kept h hhi') hhi hhi' h.size hn (by omega) (isPl_ent hp) (by rw [placeL_join]; exact hsz) (by omega))
  rw [placeL_join] at HLa
  have HS : Hid (putS T s X = if (chk T 1 0).1 ≠ 0 then .error (chk T 1 0).1 else if (chk X 1 0).1 ≠ 0 then .error (chk X 1 0).1 else if isPl s = false then .error 9 else
    match laidS T (placeL s) X 1 with
    | .error e => .error e
    | .ok W => if (chk W 1 0).1 ≠ 0 then .error (chk W 1 0).1 else .ok W) := rfl
  have HW := hide (And.intro hW hWX)
  have hB := box3_new w (.int .i64 kt) (.bool xt) (.slice at0 nt ct) (.slice bt mt dt) (.slice et pt qt) (.int .i64 kx) (.bool xx) (.slice ax nx cxx) (.slice bx mx dx) (.slice ex px qx)
  obtain ⟨wA, hwA⟩ : ∃ wA, wA = (((w.alloc (.cells #[.int .i64 kt, .bool xt, .slice at0 nt ct, .slice bt mt dt, .slice et pt qt] 26)).alloc (.cells #[.int .i64 kx, .bool xx, .slice ax nx cxx, .slice bx mx dx, .slice ex px qx] 26)).alloc (.cells #[.int .i64 0, .bool false, .slice none 0 0, .slice none 0 0, .slice none 0 0] 26)) := ⟨_, rfl⟩
  rw [← hwA] at hB
  have HB := hide hB
  have HwA := hide hwA
  clear hL hX hW hWX hsz hB hwA
  go_enter Tryd.func25, Tryd.ntmps25
  go_wp2_with fail
  rw [← unhide HwA]
  refine (unhide HC1 wA (unhide HB).b).mono ?_
  rintro e w1 ⟨rfl, hb1⟩
  have HB1 := hide ((unhide HB).kept hb1 (unhide HB).s)
  clear HC1 HB HwA hb1
  by_cases hc1 : (chk T 1 0).1 = 0
  case neg =>
    have hn1 := ne0 hc1
    have HSr : Hid (putS T s X = .error (chk T 1 0).1) := by show _ = _; rw [unhide HS, if_pos hc1]
    obtain ⟨r0, r1, r2, r3, r4⟩ := (unhide HB1).r.cells
    have rf0 := (unhide HB1).r.fr 0
    have rf1 := (unhide HB1).r.fr 1
    have rf2 := (unhide HB1).r.fr 2
    have rf3 := (unhide HB1).r.fr 3
    have rf4 := (unhide HB1).r.fr 4
    clear hc1
    generalize (chk T 1 0).1 = c1 at *
    go_wp2_with fail
    rw [unhide HSr]
    refine bodyPost_ret (v := .tuple #[.agg zeroT.toArray, .int .i64 (c1 : Int)]) (by simp [results, Tryd.results25, go_sem, zeroT, r0, r1, r2, r3, r4]) rfl ⟨?_, rfl⟩
    exact below_set5 (unhide HB1).b (by omega) _ _ _ _ _
  case pos =>
  obtain ⟨y0, y1, y2, y3, y4⟩ := (unhide HB1).x.cells
  have HN := hide (chk_nice T hc1)
  rw [if_neg (by simp [hc1])] at HS
  rw [hc1]
  clear hc1
  go_wp2_with fail
  refine (unhide HC2 w1 (unhide HB1).b).mono ?_
  rintro e w2 ⟨rfl, hb2⟩
  have HB2 := hide ((unhide HB1).kept hb2 (unhide HB1).s)
  clear HC2 HB1 hb2 y0 y1 y2 y3 y4
  by_cases hc2 : (chk X 1 0).1 = 0
  case neg =>
    have hn1 := ne0 hc2
    have HSr : Hid (putS T s X = .error (chk X 1 0).1) := by show _ = _; rw [unhide HS, if_pos hc2]
    obtain ⟨r0, r1, r2, r3, r4⟩ := (unhide HB2).r.cells
    have rf0 := (unhide HB2).r.fr 0
    have rf1 := (unhide HB2).r.fr 1
    have rf2 := (unhide HB2).r.fr 2
    have rf3 := (unhide HB2).r.fr 3
    have rf4 := (unhide HB2).r.fr 4
    clear hc2
    generalize (chk X 1 0).1 = c1 at *
    go_wp2_with fail
    rw [unhide HSr]
    refine bodyPost_ret (v := .tuple #[.agg zeroT.toArray, .int .i64 (c1 : Int)]) (by simp [results, Tryd.results25, go_sem, zeroT, r0, r1, r2, r3, r4]) rfl ⟨?_, rfl⟩
    exact below_set5 (unhide HB2).b (by omega) _ _ _ _ _
  case pos =>
  rw [if_neg (by simp [hc2])] at HS
  rw [hc2]
  clear hc2
  go_wp2_with fail
  refine (unhide HP w2).mono ?_
  rintro e w3 ⟨hb3, hpl⟩
  have HB3 := hide ((unhide HB2).kept hb3 (unhide HB2).s)
  clear HP HB2 hb3
  rcases hpl with ⟨rfl, hpl⟩ | ⟨rfl, hpl⟩
  case inr =>
    have HSr : Hid (putS T s X = .error 9) := by show _ = _; rw [unhide HS, if_pos (isPl_no hpl)]
    obtain ⟨r0, r1, r2, r3, r4⟩ := (unhide HB3).r.cells
    have rf0 := (unhide HB3).r.fr 0
    have rf1 := (unhide HB3).r.fr 1
    have rf2 := (unhide HB3).r.fr 2
    have rf3 := (unhide HB3).r.fr 3
    have rf4 := (unhide HB3).r.fr 4
    clear hpl
    go_wp2_with fail
    rw [unhide HSr]
    refine bodyPost_ret (v := .tuple #[.agg zeroT.toArray, .int .i64 9]) (by simp [results, Tryd.results25, go_sem, zeroT, r0, r1, r2, r3, r4]) rfl ⟨?_, rfl⟩
    exact below_set5 (unhide HB3).b (by omega) _ _ _ _ _
  case inl =>
  have hip := isPl_yes hpl
  rw [if_neg (by simp [hip])] at HS
  have HE := hide (isPl_ent hip)
  have HL3 := hide (unhide HLa w3 (unhide HB3).b (unhide HN) hip)
  obtain ⟨y0, y1, y2, y3, y4⟩ := (unhide HB3).x.cells
  obtain ⟨z0, z1, z2, z3, z4⟩ := (unhide HB3).t.cells
  clear HLa hpl hip
  go_wp2_with fail
  refine (unhide HL3).mono ?_
  rintro e w4 ⟨hb4, hans⟩
  have HB4 := hide ((unhide HB3).kept hb4 (unhide HB3).s)
  have hs4 := hb4.size
  have hs3 := (unhide HB3).s
  clear HL3 HB3 hb4 y0 y1 y2 y3 y4 z0 z1 z2 z3 z4
  cases hlr : laidS T (placeL s) X 1 with
  | error en =>
    rw [hlr] at hans HS
    have he : e = .returned (.tuple #[.agg zeroT.toArray, .int .i64 (en : Int)]) := hans
    subst he
    have hen := ne0 (laidS_err hlr)
    have HSr : Hid (putS T s X = .error en) := unhide HS
    obtain ⟨r0, r1, r2, r3, r4⟩ := (unhide HB4).r.cells
    have rf0 := (unhide HB4).r.fr 0
    have rf1 := (unhide HB4).r.fr 1
    have rf2 := (unhide HB4).r.fr 2
    have rf3 := (unhide HB4).r.fr 3
    have rf4 := (unhide HB4).r.fr 4
    clear hans hlr
    have hlt4 : w.heap.size + 1 + 1 < w4.heap.size := by omega
    have hne4 : w.heap.size + 1 + 1 ≠ w4.heap.size := by omega
    unfold zeroT
    go_wp2_with fail
    rw [unhide HSr]
    refine bodyPost_ret (v := .tuple #[.agg zeroT.toArray, .int .i64 (en : Int)]) (by simp [results, Tryd.results25, go_sem, zeroT, r0, r1, r2, r3, r4, hlt4]) rfl ⟨?_, rfl⟩
    exact (below_set5 (unhide HB4).b (by omega) _ _ _ _ _).alloc (by rw [set5_size]; omega) _
  | ok W =>
    rw [hlr] at hans HS
    obtain ⟨cs', rfl, hL'⟩ : ∃ cs : List Value, e = .returned (.tuple #[.agg cs.toArray, .int .i64 0]) ∧ Lays w.heap.size w3.heap.size w4 W cs := hans
    obtain ⟨j0, j1, f1, g1, h1, f2, g2, h2, f3, g3, h3, rfl⟩ := hL'.lies.form
    have HWt : Hid (wt W ≤ 100000) := by
      have h1 := laid_wt _ hlr (unhide HE) (unhide HN)
      have h2 := unhide HW
      show _ ≤ _
      omega
    have HL' := hide hL'.lies
    have hlt4 : w.heap.size + 1 + 1 < w4.heap.size := by omega
    have hne4 : w.heap.size + 1 + 1 ≠ w4.heap.size := by omega
    clear hlr hL'
    go_wp2_with fail
    obtain ⟨w5, hw5⟩ : ∃ w5, w5 = w4.alloc (.cells #[.int .i64 j0, .bool j1, .slice f1 g1 h1, .slice f2 g2 h2, .slice f3 g3 h3] 26) := ⟨_, rfl⟩
    have hb45 : Below w4.heap.size w4 w5 := by rw [hw5]; exact (Below.refl _ _).alloc (Nat.le_refl _) _
    have hs5 : w5.heap.size = w4.heap.size + 1 := by rw [hw5]; simp
    have hbx5 : Bx w5 w4.heap.size (.int .i64 j0) (.bool j1) (.slice f1 g1 h1) (.slice f2 g2 h2) (.slice f3 g3 h3) := by rw [hw5]; exact bx_new _ _ _ _ _ _
    have HB5 := hide ((unhide HB4).kept hb45 (by omega))
    have HL5 := hide ((unhide HL').kept hb45 (Nat.le_refl _))
    rw [← hw5]
    clear hw5 HB4 HL' hb45
    refine (check_any W 0 w4.heap.size _ w5 (unhide HL5) (unhide HWt) (by omega)).mono ?_
    rintro e w6 ⟨rfl, hb6⟩
    have hs6 := hb6.size
    have HB6 := hide ((unhide HB5).kept hb6 (by omega))
    have HL6 := hide ((unhide HL5).kept hb6 (by omega))
    have hbx6 := hbx5.kept hb6 (by omega)
    clear HB5 HL5 hb6 hbx5
    obtain ⟨r0, r1, r2, r3, r4⟩ := (unhide HB6).r.cells
    have rf0 := (unhide HB6).r.fr 0
    have rf1 := (unhide HB6).r.fr 1
    have rf2 := (unhide HB6).r.fr 2
    have rf3 := (unhide HB6).r.fr 3
    have rf4 := (unhide HB6).r.fr 4
    by_cases hc3 : (chk W 1 0).1 = 0
    case neg =>
      have hn1 := ne0 hc3
      have HSr : Hid (putS T s X = .error (chk W 1 0).1) := by show _ = _; rw [unhide HS]; exact if_pos hc3
      clear hc3
      generalize (chk W 1 0).1 = c1 at *
      go_wp2_with fail
      rw [unhide HSr]
      refine bodyPost_ret (v := .tuple #[.agg zeroT.toArray, .int .i64 (c1 : Int)]) (by simp [results, Tryd.results25, go_sem, zeroT, r0, r1, r2, r3, r4]) rfl ⟨?_, rfl⟩
      exact below_set5 (unhide HB6).b (by omega) _ _ _ _ _
    case pos =>
      have HSr : Hid (putS T s X = .ok W) := by show _ = _; rw [unhide HS]; exact if_neg (by simp [hc3])
      have HCl := hide (clone_any W 0 w4.heap.size _ w6 (unhide HL6) (unhide HWt) (by omega) (chk_nice W hc3).ev)
      obtain ⟨y0, y1, y2, y3, y4⟩ := hbx6.cells
      rw [hc3]
      clear hc3
      clear r0 r1 r2 r3 r4 rf0 rf1 rf2 rf3 rf4
      go_wp2_with fail
      refine (unhide HCl).mono ?_
      rintro e w7 ⟨c7, rfl, hb7, hO⟩
      obtain ⟨q0, q1, f4, g4, h4, f5, g5, h5, f6, g6, h6, rfl⟩ := hO.lies.form
      have hs7 := hb7.size
      have HB7 := hide ((unhide HB6).kept hb7 (by omega))
      obtain ⟨r0, r1, r2, r3, r4⟩ := (unhide HB7).r.cells
      have rf0 := (unhide HB7).r.fr 0
      have rf1 := (unhide HB7).r.fr 1
      have rf2 := (unhide HB7).r.fr 2
      have rf3 := (unhide HB7).r.fr 3
      have rf4 := (unhide HB7).r.fr 4
      have HO := hide hO
      clear hO hb7 HB6 HL6 hbx6 y0 y1 y2 y3 y4 HCl
      go_wp2_with fail
      rw [unhide HSr]
      refine bodyPost_ret (v := .tuple #[.agg #[.int .i64 q0, .bool q1, .slice f4 g4 h4, .slice f5 g5 h5, .slice f6 g6 h6], .int .i64 0]) (by simp [results, Tryd.results25, go_sem, r0, r1, r2, r3, r4]) rfl ⟨?_, ?_⟩
      · exact below_set5 (unhide HB7).b (by omega) _ _ _ _ _
      · refine ⟨[.int .i64 q0, .bool q1, .slice f4 g4 h4, .slice f5 g5 h5, .slice f6 g6 h6], rfl, ?_⟩
        rw [set5_eq]
        exact ((unhide HO).same (fun k h1 h2 => set5_other _ _ _ _ _ _ _ _ (by omega))).mono (by omega) (by rw [set5_size]; omega)
end Go.Proofs.YthfjofmfiklegaaDoor
