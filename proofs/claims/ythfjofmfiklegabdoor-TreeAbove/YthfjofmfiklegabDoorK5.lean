import Derived.Test.YthfjofmfiklegabDoorK4
import Derived.Test.YthfjofmfiklegabDoorK3
import Derived.Test.YthfjofmfiklegabDoorK2
import Derived.Deep.RegionWith
import Derived.Test.YthfjofmfiklegabDoorK1
import Derived.Lib.SlBytesConst
/- Put, in the code. -/
namespace Go.Proofs.YthfjofmfiklegabDoor
open Go.RowKit
/-- What Put answers. -/
def PutA (B : Nat) (r : Except Nat Tr) (e : Ending) (w' : World) : Prop := match r with
  | .error n => e = .returned (.tuple #[.agg zeroT.toArray, .int .i64 (n : Int)])
  | .ok W => ∃ cs : List Value, e = .returned (.tuple #[.agg cs.toArray, .int .i64 0]) ∧ Own w' B w'.heap.size W cs
/-- The three boxes. -/
structure Box3 (w W : World) (t0 t1 t2 t3 t4 x0 x1 x2 x3 x4 : Value) : Prop where
  b : Below w.heap.size w W
  s : w.heap.size + 1 + 1 + 1 ≤ W.heap.size
  t : Bx W w.heap.size t0 t1 t2 t3 t4
  x : Bx W (w.heap.size + 1) x0 x1 x2 x3 x4
  r : Bx W (w.heap.size + 1 + 1) (.int .i64 0) (.bool false) (.slice none 0 0) (.slice none 0 0) (.slice none 0 0)
theorem Box3.kept {w W W' : World} {t0 t1 t2 t3 t4 x0 x1 x2 x3 x4 : Value} (h : Box3 w W t0 t1 t2 t3 t4 x0 x1 x2 x3 x4) {B : Nat} (hb : Below B W W') (hB : w.heap.size + 1 + 1 + 1 ≤ B) : Box3 w W' t0 t1 t2 t3 t4 x0 x1 x2 x3 x4 :=
  ⟨h.b.trans (hb.mono (by omega)), by have := h.s; have := hb.size; omega, h.t.kept hb (by omega), h.x.kept hb (by omega), h.r.kept hb (by omega)⟩
theorem box3_new (w : World) (t0 t1 t2 t3 t4 x0 x1 x2 x3 x4 : Value) : Box3 w (((w.alloc (.cells #[t0, t1, t2, t3, t4] 26)).alloc (.cells #[x0, x1, x2, x3, x4] 26)).alloc (.cells #[.int .i64 0, .bool false, .slice none 0 0, .slice none 0 0, .slice none 0 0] 26)) t0 t1 t2 t3 t4 x0 x1 x2 x3 x4 := by
  refine ⟨(((Below.refl _ _).alloc (Nat.le_refl _) _).alloc (by simp) _).alloc (by simp; omega) _, by simp, ?_, ?_, ?_⟩
  · exact (bx_new w _ _ _ _ _).kept (((Below.refl (w.heap.size + 1) _).alloc (by simp) _).alloc (by simp) _) (by omega)
  · have := (bx_new (w.alloc (.cells #[t0, t1, t2, t3, t4] 26)) x0 x1 x2 x3 x4).kept ((Below.refl (w.heap.size + 1 + 1) _).alloc (by simp) (.cells #[.int .i64 0, .bool false, .slice none 0 0, .slice none 0 0, .slice none 0 0] 26)) (by simp)
    simpa using this
  · have := bx_new ((w.alloc (.cells #[t0, t1, t2, t3, t4] 26)).alloc (.cells #[x0, x1, x2, x3, x4] 26)) (.int .i64 0) (.bool false) (.slice none 0 0) (.slice none 0 0) (.slice none 0 0)
    simpa using this
theorem ne0 {n : Nat} (h : ¬ n = 0) : (((n : Nat) : Int) == 0) = false := by rw [beq_eq_false_iff_ne]; omega
set_option maxRecDepth 20000 in
set_option maxHeartbeats 2000000 in
theorem put_any (T X : Tr) (s : ByteArray) (lo hi lo' hi' : Nat) (cs cx : List Value) (w : World) (hL : Lies lo hi w T cs) (hX : Lies lo' hi' w X cx) (hhi : hi ≤ w.heap.size) (hhi' : hi' ≤ w.heap.size) (hW : wt T ≤ 40000) (hWX : wt X ≤ 40000) (hsz : s.size ≤ 1000000) :
    Calls Tryd.prog 5 #[.agg cs.toArray, .string s, .agg cx.toArray] w fun e w' => Below w.heap.size w w' ∧ PutA w.heap.size (putS T s X) e w' := by
  obtain ⟨kt, xt, at0, nt, ct, bt, mt, dt, et, pt, qt, rfl⟩ := hL.form
  obtain ⟨kx, xx, ax, nx, cxx, bx, mx, dx, ex, px, qx, rfl⟩ := hX.form
  have HT := hide (And.intro hL hX)
  have HC1 := hide (fun W (h : Below w.heap.size w W) => check_any T lo hi _ W (hL.kept h hhi) (by omega) (by have := h.size; omega))
  have HC2 := hide (fun W (h : Below w.heap.size w W) => check_any X lo' hi' _ W (hX.kept h hhi') (by omega) (by have := h.size; omega))
  have HP := hide (fun W => isPlace_any s W hsz)
  have HLa := hide (fun (W : World) (h : Below w.heap.size w W) (hn : Nice T) (hp : isPl s = true) => laid_any w.heap.size (placeL s) T X lo hi lo' hi' 1 _ _ W (hL.kept h hhi) (hX.kept h hhi') hhi hhi' h.size hn (by omega) (isPl_ent hp) (by rw [placeL_join]; exact hsz) (by omega))
  rw [placeL_join] at HLa
  have HS : Hid (putS T s X = if (chk T 1 0).1 ≠ 0 then .error (chk T 1 0).1 else if (chk X 1 0).1 ≠ 0 then .error (chk X 1 0).1 else if isPl s = false then .error 9 else
    match laidS T (placeL s) X 1 with
    | .error e => .error e
    | .ok W => if (chk W 1 0).1 ≠ 0 then .error (chk W 1 0).1 else .ok W) := rfl
  have HW := hide (And.intro hW hWX)
  have hB := box3_new w (.int .i64 kt) (.bool xt) (.slice at0 nt ct) (.slice bt mt dt) (.slice et pt qt) (.int .i64 kx) (.bool xx) (.slice ax nx cxx) (.slice bx mx dx) (.slice ex px qx)
  obtain ⟨wA, hwA⟩ : ∃ wA, wA = (((w.alloc (.cells #[.int .i64 kt, .bool xt, .slice at0 nt ct, .slice bt mt dt, .slice et pt qt] 26)).alloc (.cells #[.int .i64 kx, .bool xx, .slice ax nx cxx, .slice bx mx dx, .slice ex px qx] 26)).alloc (.cells #[.int .i64 0, .bool false, .slice none 0 0, .slice none 0 0, .slice none 0 0] 26)) := ⟨_, rfl⟩
  rw [← hwA] at hB
  have HB := hide hB
  have HwA := hide hwA
  clear hL hX hW hWX hsz hB hwA
  go_enter Tryd.func5, Tryd.ntmps5
  go_wp2_with fail
  rw [← unhide HwA]
  refine (unhide HC1 wA (unhide HB).b).mono ?_
  rintro e w1 ⟨rfl, hb1⟩
  have HB1 := hide ((unhide HB).kept hb1 (unhide HB).s)
  clear HC1 HB HwA hb1
  by_cases hc1 : (chk T 1 0).1 = 0
  case neg =>
    have hn1 := ne0 hc1
    have HSr : Hid (putS T s X = .error (chk T 1 0).1) := by show _ = _; rw [unhide HS, if_pos hc1]
    obtain ⟨r0, r1, r2, r3, r4⟩ := (unhide HB1).r.cells
    have rf0 := (unhide HB1).r.fr 0
    have rf1 := (unhide HB1).r.fr 1
    have rf2 := (unhide HB1).r.fr 2
    have rf3 := (unhide HB1).r.fr 3
    have rf4 := (unhide HB1).r.fr 4
    clear hc1
    generalize (chk T 1 0).1 = c1 at *
    go_wp2_with fail
    rw [unhide HSr]
    refine bodyPost_ret (v := .tuple #[.agg zeroT.toArray, .int .i64 (c1 : Int)]) (by simp [results, Tryd.results5, go_sem, zeroT, r0, r1, r2, r3, r4]) rfl ⟨?_, rfl⟩
    exact below_set5 (unhide HB1).b (by omega) _ _ _ _ _
  case pos =>
  obtain ⟨y0, y1, y2, y3, y4⟩ := (unhide HB1).x.cells
  have HN := hide (chk_nice T hc1)
  rw [if_neg (by simp [hc1])] at HS
  rw [hc1]
  clear hc1
  go_wp2_with fail
  refine (unhide HC2 w1 (unhide HB1).b).mono ?_
  rintro e w2 ⟨rfl, hb2⟩
  have HB2 := hide ((unhide HB1).kept hb2 (unhide HB1).s)
  clear HC2 HB1 hb2 y0 y1 y2 y3 y4
  by_cases hc2 : (chk X 1 0).1 = 0
  case neg =>
    have hn1 := ne0 hc2
    have HSr : Hid (putS T s X = .error (chk X 1 0).1) := by show _ = _; rw [unhide HS, if_pos hc2]
    obtain ⟨r0, r1, r2, r3, r4⟩ := (unhide HB2).r.cells
    have rf0 := (unhide HB2).r.fr 0
    have rf1 := (unhide HB2).r.fr 1
    have rf2 := (unhide HB2).r.fr 2
    have rf3 := (unhide HB2).r.fr 3
    have rf4 := (unhide HB2).r.fr 4
    clear hc2
    generalize (chk X 1 0).1 = c1 at *
    go_wp2_with fail
    rw [unhide HSr]
    refine bodyPost_ret (v := .tuple #[.agg zeroT.toArray, .int .i64 (c1 : Int)]) (by simp [results, Tryd.results5, go_sem, zeroT, r0, r1, r2, r3, r4]) rfl ⟨?_, rfl⟩
    exact below_set5 (unhide HB2).b (by omega) _ _ _ _ _
  case pos =>
  rw [if_neg (by simp [hc2])] at HS
  rw [hc2]
  clear hc2
  go_wp2_with fail
  refine (unhide HP w2).mono ?_
  rintro e w3 ⟨hb3, hpl⟩
  have HB3 := hide ((unhide HB2).kept hb3 (unhide HB2).s)
  clear HP HB2 hb3
  rcases hpl with ⟨rfl, hpl⟩ | ⟨rfl, hpl⟩
  case inr =>
    have HSr : Hid (putS T s X = .error 9) := by show _ = _; rw [unhide HS, if_pos (isPl_no hpl)]
    obtain ⟨r0, r1, r2, r3, r4⟩ := (unhide HB3).r.cells
    have rf0 := (unhide HB3).r.fr 0
    have rf1 := (unhide HB3).r.fr 1
    have rf2 := (unhide HB3).r.fr 2
    have rf3 := (unhide HB3).r.fr 3
    have rf4 := (unhide HB3).r.fr 4
    clear hpl
    go_wp2_with fail
    rw [unhide HSr]
    refine bodyPost_ret (v := .tuple #[.agg zeroT.toArray, .int .i64 9]) (by simp [results, Tryd.results5, go_sem, zeroT, r0, r1, r2, r3, r4]) rfl ⟨?_, rfl⟩
    exact below_set5 (unhide HB3).b (by omega) _ _ _ _ _
  case inl =>
  have hip := isPl_yes hpl
  rw [if_neg (by simp [hip])] at HS
  have HE := hide (isPl_ent hip)
  have HL3 := hide (unhide HLa w3 (unhide HB3).b (unhide HN) hip)
  obtain ⟨y0, y1, y2, y3, y4⟩ := (unhide HB3).x.cells
  obtain ⟨z0, z1, z2, z3, z4⟩ := (unhide HB3).t.cells
  clear HLa hpl hip
  go_wp2_with fail
  refine (unhide HL3).mono ?_
  rintro e w4 ⟨hb4, hans⟩
  have HB4 := hide ((unhide HB3).kept hb4 (unhide HB3).s)
  have hs4 := hb4.size
  have hs3 := (unhide HB3).s
  clear HL3 HB3 hb4 y0 y1 y2 y3 y4 z0 z1 z2 z3 z4
  cases hlr : laidS T (placeL s) X 1 with
  | error en =>
    rw [hlr] at hans HS
    have he : e = .returned (.tuple #[.agg zeroT.toArray, .int .i64 (en : Int)]) := hans
    subst he
    have hen := ne0 (laidS_err hlr)
    have HSr : Hid (putS T s X = .error en) := unhide HS
    obtain ⟨r0, r1, r2, r3, r4⟩ := (unhide HB4).r.cells
    have rf0 := (unhide HB4).r.fr 0
    have rf1 := (unhide HB4).r.fr 1
    have rf2 := (unhide HB4).r.fr 2
    have rf3 := (unhide HB4).r.fr 3
    have rf4 := (unhide HB4).r.fr 4
    clear hans hlr
    have hlt4 : w.heap.size + 1 + 1 < w4.heap.size := by omega
    have hne4 : w.heap.size + 1 + 1 ≠ w4.heap.size := by omega
    unfold zeroT
    go_wp2_with fail
    rw [unhide HSr]
    refine bodyPost_ret (v := .tuple #[.agg zeroT.toArray, .int .i64 (en : Int)]) (by simp [results, Tryd.results5, go_sem, zeroT, r0, r1, r2, r3, r4, hlt4]) rfl ⟨?_, rfl⟩
    exact (below_set5 (unhide HB4).b (by omega) _ _ _ _ _).alloc (by rw [set5_size]; omega) _
  | ok W =>
    rw [hlr] at hans HS
    obtain ⟨cs', rfl, hL'⟩ : ∃ cs : List Value, e = .returned (.tuple #[.agg cs.toArray, .int .i64 0]) ∧ Lays w.heap.size w3.heap.size w4 W cs := hans
    obtain ⟨j0, j1, f1, g1, h1, f2, g2, h2, f3, g3, h3, rfl⟩ := hL'.lies.form
    have HWt : Hid (wt W ≤ 100000) := by
      have h1 := laid_wt _ hlr (unhide HE) (unhide HN)
      have h2 := unhide HW
      show _ ≤ _
      omega
    have HL' := hide hL'.lies
    have hlt4 : w.heap.size + 1 + 1 < w4.heap.size := by omega
    have hne4 : w.heap.size + 1 + 1 ≠ w4.heap.size := by omega
    clear hlr hL'
    go_wp2_with fail
    obtain ⟨w5, hw5⟩ : ∃ w5, w5 = w4.alloc (.cells #[.int .i64 j0, .bool j1, .slice f1 g1 h1, .slice f2 g2 h2, .slice f3 g3 h3] 26) := ⟨_, rfl⟩
    have hb45 : Below w4.heap.size w4 w5 := by rw [hw5]; exact (Below.refl _ _).alloc (Nat.le_refl _) _
    have hs5 : w5.heap.size = w4.heap.size + 1 := by rw [hw5]; simp
    have hbx5 : Bx w5 w4.heap.size (.int .i64 j0) (.bool j1) (.slice f1 g1 h1) (.slice f2 g2 h2) (.slice f3 g3 h3) := by rw [hw5]; exact bx_new _ _ _ _ _ _
    have HB5 := hide ((unhide HB4).kept hb45 (by omega))
    have HL5 := hide ((unhide HL').kept hb45 (Nat.le_refl _))
    rw [← hw5]
    clear hw5 HB4 HL' hb45
    refine (check_any W 0 w4.heap.size _ w5 (unhide HL5) (unhide HWt) (by omega)).mono ?_
    rintro e w6 ⟨rfl, hb6⟩
    have hs6 := hb6.size
    have HB6 := hide ((unhide HB5).kept hb6 (by omega))
    have HL6 := hide ((unhide HL5).kept hb6 (by omega))
    have hbx6 := hbx5.kept hb6 (by omega)
    clear HB5 HL5 hb6 hbx5
    obtain ⟨r0, r1, r2, r3, r4⟩ := (unhide HB6).r.cells
    have rf0 := (unhide HB6).r.fr 0
    have rf1 := (unhide HB6).r.fr 1
    have rf2 := (unhide HB6).r.fr 2
    have rf3 := (unhide HB6).r.fr 3
    have rf4 := (unhide HB6).r.fr 4
    by_cases hc3 : (chk W 1 0).1 = 0
    case neg =>
      have hn1 := ne0 hc3
      have HSr : Hid (putS T s X = .error (chk W 1 0).1) := by show _ = _; rw [unhide HS]; exact if_pos hc3
      clear hc3
      generalize (chk W 1 0).1 = c1 at *
      go_wp2_with fail
      rw [unhide HSr]
      refine bodyPost_ret (v := .tuple #[.agg zeroT.toArray, .int .i64 (c1 : Int)]) (by simp [results, Tryd.results5, go_sem, zeroT, r0, r1, r2, r3, r4]) rfl ⟨?_, rfl⟩
      exact below_set5 (unhide HB6).b (by omega) _ _ _ _ _
    case pos =>
      have HSr : Hid (putS T s X = .ok W) := by show _ = _; rw [unhide HS]; exact if_neg (by simp [hc3])
      have HCl := hide (clone_any W 0 w4.heap.size _ w6 (unhide HL6) (unhide HWt) (by omega) (chk_nice W hc3).ev)
      obtain ⟨y0, y1, y2, y3, y4⟩ := hbx6.cells
      rw [hc3]
      clear hc3
      clear r0 r1 r2 r3 r4 rf0 rf1 rf2 rf3 rf4
      go_wp2_with fail
      refine (unhide HCl).mono ?_
      rintro e w7 ⟨c7, rfl, hb7, hO⟩
      obtain ⟨q0, q1, f4, g4, h4, f5, g5, h5, f6, g6, h6, rfl⟩ := hO.lies.form
      have hs7 := hb7.size
      have HB7 := hide ((unhide HB6).kept hb7 (by omega))
      obtain ⟨r0, r1, r2, r3, r4⟩ := (unhide HB7).r.cells
      have rf0 := (unhide HB7).r.fr 0
      have rf1 := (unhide HB7).r.fr 1
      have rf2 := (unhide HB7).r.fr 2
      have rf3 := (unhide HB7).r.fr 3
      have rf4 := (unhide HB7).r.fr 4
      have HO := hide hO
      clear hO hb7 HB6 HL6 hbx6 y0 y1 y2 y3 y4 HCl
      go_wp2_with fail
      rw [unhide HSr]
      refine bodyPost_ret (v := .tuple #[.agg #[.int .i64 q0, .bool q1, .slice f4 g4 h4, .slice f5 g5 h5, .slice f6 g6 h6], .int .i64 0]) (by simp [results, Tryd.results5, go_sem, r0, r1, r2, r3, r4]) rfl ⟨?_, ?_⟩
      · exact below_set5 (unhide HB7).b (by omega) _ _ _ _ _
      · refine ⟨[.int .i64 q0, .bool q1, .slice f4 g4 h4, .slice f5 g5 h5, .slice f6 g6 h6], rfl, ?_⟩
        rw [set5_eq]
        exact ((unhide HO).same (fun k h1 h2 => set5_other _ _ _ _ _ _ _ _ (by omega))).mono (by omega) (by rw [set5_size]; omega)
end Go.Proofs.YthfjofmfiklegabDoor
/- Files, in the code. -/
namespace Go.Proofs.YthfjofmfiklegabDoor
open Go.RowKit
/-- The places of all files, rising. -/
noncomputable def filesS (T : Tr) : List ByteArray := if (chk T 1 0).1 = 0 then sortB (filesL T ⟨#[]⟩) else []
theorem Gt.below {c : Nat} {w w' : World} {v v' : Value} (h : Gt c w w' v v') {B : Nat} (hB : B ≤ c) (hc : c ≤ w.heap.size) (hv : ∀ g, v.ownBlock = some g → B ≤ g) : Below B w w' :=
  ⟨h.os, h.tape, h.output, h.size, fun k hk => h.keep k (by omega) (by omega) (fun e => by have := hv k e; omega)⟩
set_option maxRecDepth 20000 in
set_option maxHeartbeats 1000000 in
theorem files_any (T : Tr) (lo hi : Nat) (cs : List Value) (w : World) (hL : Lies lo hi w T cs) (hW : wt T ≤ 100000) (hhi : hi ≤ w.heap.size) :
    Calls Tryd.prog 15 #[.agg cs.toArray] w fun e w' => Below w.heap.size w w' ∧ ∃ a c, e = .returned (.slice a (filesS T).length c) ∧ Row w.heap.size w'.heap.size w' (.slice a (filesS T).length c) (filesS T).length ((filesS T).map .string) := by
  obtain ⟨kt, xt, at0, nt, ct, bt, mt, dt, et, pt, qt, rfl⟩ := hL.form
  have HC1 := hide (fun W (h : Below w.heap.size w W) => check_any T lo hi _ W (hL.kept h hhi) hW (by have := h.size; omega))
  have HL := hide hL
  obtain ⟨wA, hwA⟩ : ∃ wA, wA = w.alloc (.cells #[.int .i64 kt, .bool xt, .slice at0 nt ct, .slice bt mt dt, .slice et pt qt] 26) := ⟨_, rfl⟩
  have hbA : Below w.heap.size w wA := by rw [hwA]; exact (Below.refl _ _).alloc (Nat.le_refl _) _
  have hsA : wA.heap.size = w.heap.size + 1 := by rw [hwA]; simp
  have hbx : Bx wA w.heap.size (.int .i64 kt) (.bool xt) (.slice at0 nt ct) (.slice bt mt dt) (.slice et pt qt) := by rw [hwA]; exact bx_new _ _ _ _ _ _
  have HA := hide (And.intro hbA (And.intro hsA hbx))
  have HwA := hide hwA
  have HF : Hid (filesS T = if (chk T 1 0).1 = 0 then sortB (filesL T ⟨#[]⟩) else []) := rfl
  clear hL hwA hbA hsA hbx
  go_enter Tryd.func15, Tryd.ntmps15
  go_wp2_with fail
  rw [← unhide HwA]
  refine (unhide HC1 wA (unhide HA).1).mono ?_
  rintro e w1 ⟨rfl, hb1⟩
  have hs1 := hb1.size
  have HA1 := hide (And.intro ((unhide HA).1.trans (hb1.mono (by have := (unhide HA).2.1; omega))) ((unhide HA).2.2.kept hb1 (by have := (unhide HA).2.1; omega)))
  have hs0 := (unhide HA).2.1
  clear HC1 HwA hb1 HA
  by_cases hc1 : (chk T 1 0).1 = 0
  case neg =>
    have hn1 := ne0 hc1
    rw [if_neg hc1] at HF
    clear hc1
    generalize (chk T 1 0).1 = c1 at *
    go_wp2_with fail
    rw [unhide HF]
    refine bodyPost_ret (v := .slice none 0 0) (by simp [results, Tryd.results15, go_sem]) rfl ⟨(unhide HA1).1, none, 0, rfl, none, 0, rfl, Nat.le_refl _, fun h => absurd h (Nat.lt_irrefl _)⟩
  case pos =>
  have HN := hide (chk_nice T hc1).ev
  rw [if_pos hc1] at HF
  rw [hc1]
  clear hc1
  obtain ⟨y0, y1, y2, y3, y4⟩ := (unhide HA1).2.cells
  have hlt1 : w.heap.size < w1.heap.size := by omega
  go_wp2_with fail
  obtain ⟨wB, hwB⟩ : ∃ wB, wB = w1.alloc (.cells #[.slice none 0 0] 23) := ⟨_, rfl⟩
  have hbB : Below w1.heap.size w1 wB := by rw [hwB]; exact (Below.refl _ _).alloc (Nat.le_refl _) _
  have hsB : wB.heap.size = w1.heap.size + 1 := by rw [hwB]; simp
  have hcB : wB.heap[w1.heap.size]? = some (.cells #[.slice none 0 0] 23) := by
    rw [hwB]
    show (w1.heap.push _)[w1.heap.size]? = _
    rw [Array.getElem?_push, if_pos rfl]
  rw [← hwB]
  clear hwB
  have HG := hide (gather_any T lo hi _ wB w1.heap.size ⟨#[]⟩ none 0 [] ((unhide HL).kept ((unhide HA1).1.trans (hbB.mono (by omega))) hhi) (by omega) (unhide HN) hW (by show 0 + _ ≤ _; omega) (by simp; omega) ⟨by rw [cell_of_row _ _ _ _ _ _ hcB]; rfl, by unfold World.frozen?; rw [hcB]; simp⟩ ⟨by simp, .inl ⟨rfl, rfl⟩⟩)
  refine (unhide HG).mono ?_
  rintro e w2 ⟨rfl, a2, c2, hG2, hC2, hO2⟩
  rw [List.nil_append] at hG2 hC2 hO2
  have hs2 := hG2.size
  have HB2 := hide ((unhide HA1).1.trans ((hbB.mono (by omega)).trans (hG2.below (B := w.heap.size) (by omega) (by omega) (fun g hg => by simp [Value.ownBlock] at hg))))
  have hcc := hC2.cell
  have HS := hide (sort_any (w1.heap.size + 1) a2 c2 (filesL T ⟨#[]⟩) w2 hO2 (by omega) (by have := filesL_len T ⟨#[]⟩; omega))
  have HLen := hide (sortB_length (filesL T ⟨#[]⟩))
  clear HG hG2 hO2 y0 y1 y2 y3 y4 hcB hbB
  generalize hfl : filesL T ⟨#[]⟩ = fl at *
  clear hfl
  go_wp2_with fail
  refine (unhide HS).mono ?_
  rintro e w3 ⟨rfl, hR3, hb3⟩
  have hcc3 : w3.cell? ⟨w1.heap.size, 0, none⟩ = some (.slice a2 fl.length c2) := by rw [hb3.cell (p := ⟨w1.heap.size, 0, none⟩) (by show w1.heap.size < _; omega)]; exact hcc
  have HR3 := hide (And.intro hR3 hb3)
  have hs3 := hb3.size
  clear hR3 hb3 hcc HS
  go_wp2_with fail
  rw [unhide HF]
  refine bodyPost_ret (v := .slice a2 fl.length c2) (by simp [results, Tryd.results15, go_sem]) rfl ⟨(unhide HB2).trans ((unhide HR3).2.mono (by omega)), a2, c2, by rw [unhide HLen], ?_⟩
  rw [unhide HLen]
  exact (unhide HR3).1.mono (by omega) (Nat.le_refl _)
end Go.Proofs.YthfjofmfiklegabDoor
/- The known file at a place: the plain mathematics. -/
namespace Go.Proofs.YthfjofmfiklegabDoor
open Go.RowKit
def fileX : Tr := .mk 1 false ⟨#[120]⟩ [] []
def zeroTr : Tr := .mk 0 false ⟨#[]⟩ [] []
def knownT : Tr := .mk 2 false ⟨#[]⟩ [⟨#[97]⟩] [.mk 2 false ⟨#[]⟩ [⟨#[98]⟩] [fileX]]
theorem ent_a : entB ⟨#[97]⟩ = true := by unfold entB; rw [ByteArray.toList_eq]; decide
theorem ent_b : entB ⟨#[98]⟩ = true := by unfold entB; rw [ByteArray.toList_eq]; decide
theorem ok_a : okNames [⟨#[97]⟩] := fun i hi => by
  obtain rfl : i = 0 := by simp at hi; exact hi
  rw [okName_first (by simp)]; exact ent_a
theorem ok_b : okNames [⟨#[98]⟩] := fun i hi => by
  obtain rfl : i = 0 := by simp at hi; exact hi
  rw [okName_first (by simp)]; exact ent_b
theorem chk_zero : (chk zeroTr 1 0).1 = 3 := by unfold zeroTr; rw [chk, if_neg (by omega)]; simp [locErr]
theorem chk_fileX (deep n : Nat) (hd : deep ≤ 64) (hn : n < 65536) : chk fileX deep n = (0, n + 1) := by
  unfold fileX
  have h : locErr 1 false (⟨#[120]⟩ : ByteArray).size [] ([] : List Tr).length = 0 := (loc_file (x := false) (d := 1) (nk := 0) (ns := []) rfl rfl).trans rfl
  rw [chk, if_neg (by omega), if_pos h, chks]
theorem chk_emptyDir : (chk emptyDir 1 0).1 = 0 := by
  unfold emptyDir
  have h : locErr 2 false (⟨#[]⟩ : ByteArray).size [] ([] : List Tr).length = 0 := loc_dir_ok (okNames_nil rfl)
  rw [chk, if_neg (by omega), if_pos h, chks]
theorem chk_b (deep n : Nat) (hd : deep ≤ 63) (hn : n < 65535) : chk (.mk 2 false ⟨#[]⟩ [⟨#[98]⟩] [fileX]) deep n = (0, n + 2) := by
  have h : locErr 2 false (⟨#[]⟩ : ByteArray).size [⟨#[98]⟩] [fileX].length = 0 := loc_dir_ok ok_b
  rw [chk, if_neg (by omega), if_pos h, chks, chk_fileX _ _ (by omega) (by omega), if_pos rfl, chks]
theorem chk_known : (chk knownT 1 0).1 = 0 := by
  unfold knownT
  have h : locErr 2 false (⟨#[]⟩ : ByteArray).size [⟨#[97]⟩] [Tr.mk 2 false ⟨#[]⟩ [⟨#[98]⟩] [fileX]].length = 0 := loc_dir_ok ok_a
  rw [chk, if_neg (by omega), if_pos h, chks, chk_b _ _ (by omega) (by omega), if_pos rfl, chks]
theorem place_ab : placeL ⟨#[97, 47, 98]⟩ = [⟨#[97]⟩, ⟨#[98]⟩] := rfl
theorem isPl_ab : isPl ⟨#[97, 47, 98]⟩ = true := by unfold isPl; rw [place_ab]; simp [ent_a, ent_b]
theorem laid_ab : laidS emptyDir [⟨#[97]⟩, ⟨#[98]⟩] fileX 1 = .ok knownT := by
  unfold emptyDir
  rw [laidS, if_neg (by omega), if_pos rfl]
  have e : kidAt [] [] (⟨#[97]⟩ : ByteArray) = emptyDir := rfl
  rw [e]
  unfold emptyDir
  rw [laidS, if_neg (by omega), if_pos rfl]
  have e : kidAt [] [] (⟨#[98]⟩ : ByteArray) = emptyDir := rfl
  rw [e]
  unfold emptyDir
  rw [laidS, if_neg (by omega)]
  rfl
theorem put_known : putS emptyDir ⟨#[97, 47, 98]⟩ fileX = .ok knownT := by
  unfold putS
  rw [if_neg (by simp [chk_emptyDir]), if_neg (by simp [chk_fileX 1 0 (by omega) (by omega)]), if_neg (by simp [isPl_ab]), place_ab, laid_ab]
  show (if (chk knownT 1 0).1 ≠ 0 then _ else _) = _
  rw [if_neg (by simp [chk_known])]
theorem files_known : filesS knownT = [⟨#[97, 47, 98]⟩] := by
  unfold filesS
  rw [if_pos chk_known]
  have e : filesL knownT ⟨#[]⟩ = [⟨#[97, 47, 98]⟩] := by
    unfold knownT
    rw [filesL, filesLs, filesL, filesLs]
    unfold fileX
    rw [filesL, filesLs_nil, filesLs_nil]
    rfl
  rw [e]
  unfold sortB sortL
  simp
theorem wt_fileX : wt fileX = 1 := by unfold fileX; rw [wt]; simp only [tenths, wts, List.length_nil]; rfl
theorem wt_known : wt knownT = 5 := by
  unfold knownT
  have e : wts [fileX] = 1 := by rw [wts, wt_fileX, wts]
  rw [wt, wts, wt, e, wts]
  rfl
theorem wt_zero : wt zeroTr = 1 := by unfold zeroTr; rw [wt]; simp only [tenths, wts, List.length_nil]; rfl
end Go.Proofs.YthfjofmfiklegabDoor
/- Bytes as a text. -/
namespace Go.Proofs.YthfjofmfiklegabDoor
open Go.RowKit
def cv22 (v : Value) : Sem Value := convert 22 9 v
@[go_sem ↓] theorem convert_cv22 (v : Value) : convert 22 9 v = cv22 v := rfl
theorem push_fold (l : List UInt8) : ∀ r : ByteArray, (l.map (fun b => (b.toNat : Int))).foldl (fun r n => r.push (UInt8.ofNat n.toNat)) r = ⟨r.data ++ l.toArray⟩ := by
  induction l with
  | nil => intro r; simp
  | cons x l ih =>
    intro r
    rw [List.map_cons, List.foldl_cons, ih]
    simp [ByteArray.push]
theorem run_cv22 {lo hi : Nat} {w : World} {a : Option Addr} {c : Nat} {d : ByteArray} (h : Row lo hi w (.slice a d.size c) d.size (byteVals d)) : (cv22 (.slice a d.size c)).run Tryd.prog w = .ok (.string d) w := by
  unfold cv22
  rw [run_convert_bytes_string w 22 9 5 _ _ _ Tryd.underlying22 Tryd.underlying5 Tryd.underlying9]
  by_cases h0 : 0 < d.size
  · obtain ⟨b, rfl, hcell⟩ := h.src h0
    have hload : (loadCells b d.size).run Tryd.prog w = .ok ((d.data.toList.map (fun b => (b.toNat : Int))).map (Value.int .u8)).toArray w := by
      have := run_loadCells_list (P := Tryd.prog) w b ((d.data.toList.map (fun b => (b.toNat : Int))).map (Value.int .u8)) (fun j v hv => hcell j v (by rw [List.map_map] at hv; exact hv))
      simpa using this
    rw [run_bytesToString w _ d.size c _ hload, push_fold]
    simp [ByteArray.empty, ByteArray.emptyWithCapacity]
    cases d
    simp
    rfl
  · have hz : d.size = 0 := by omega
    obtain rfl : d = ⟨#[]⟩ := by
      cases d with
      | mk a => have : a = #[] := Array.eq_empty_of_size_eq_zero hz
                rw [this]
    cases a with
    | none => rfl
    | some x =>
      show (Conv.bytesToString (.slice (some x) 0 c)).run Tryd.prog w = _
      rw [run_bytesToString w _ 0 c [] rfl]; rfl
end Go.Proofs.YthfjofmfiklegabDoor
/- Equal, in the document's own answer: two trees, node by node. -/
namespace Go.Proofs.YthfjofmfiklegabDoor
open Go.RowKit
theorem toList_inj {a b : ByteArray} (h : a.toList = b.toList) : a = b := by
  rw [ByteArray.toList_eq, ByteArray.toList_eq] at h
  exact ByteArray.ext (Array.ext' h)
theorem toList_ne {a b : ByteArray} (h : a ≠ b) : (a.toList == b.toList) = false := by
  rw [beq_eq_false_iff_ne]; exact fun e => h (toList_inj e)
theorem names_all {a b : List ByteArray} (hl : a.length = b.length) (h : ∀ j, j < a.length → a[j]? = b[j]?) : a = b := by
  apply List.ext_getElem? fun j => ?_
  by_cases hj : j < a.length
  · exact h j hj
  · rw [List.getElem?_eq_none (by omega), List.getElem?_eq_none (by omega)]
theorem trees_all {a b : List Tr} (hl : a.length = b.length) (h : ∀ j, j < a.length → a[j]? = b[j]?) : a = b := by
  apply List.ext_getElem? fun j => ?_
  by_cases hj : j < a.length
  · exact h j hj
  · rw [List.getElem?_eq_none (by omega), List.getElem?_eq_none (by omega)]
end Go.Proofs.YthfjofmfiklegabDoor
/- texts: two lists of texts. -/
namespace Go.Proofs.YthfjofmfiklegabDoor
open Go.RowKit
theorem bytes_ne {a b : ByteArray} (h : a ≠ b) : (a.toList == b.toList) = false := by
  rw [beq_eq_false_iff_ne]
  intro e
  rw [ByteArray.toList_eq, ByteArray.toList_eq] at e
  exact h (ByteArray.ext (Array.ext' e))
theorem row_str {lo hi : Nat} {w : World} {a : Option Addr} {n c : Nat} {xs : List ByteArray} (h : Row lo hi w (.slice a n c) n (xs.map .string)) (hn : xs.length = n) (i : Nat) (hi' : i < n) : ∃ g o, a = some ⟨g, o, none⟩ ∧ w.cell? ⟨g, o + i, none⟩ = some (.string (xs.getD i ⟨#[]⟩)) := by
  obtain ⟨g, o, rfl, _, _, hcell⟩ := h.at (by omega)
  exact ⟨g, o, rfl, hcell i _ (by rw [List.getElem?_map, List.getElem?_eq_getElem (show i < xs.length by omega), List.getD_eq_getElem?_getD, List.getElem?_eq_getElem (show i < xs.length by omega)]; rfl)⟩
theorem list_eq_of {xs ys : List ByteArray} (hl : xs.length = ys.length) (h : ∀ j, j < xs.length → xs.getD j ⟨#[]⟩ = ys.getD j ⟨#[]⟩) : xs = ys := by
  apply List.ext_getElem hl
  intro i h1 h2
  have := h i h1
  rw [List.getD_eq_getElem?_getD, List.getD_eq_getElem?_getD, List.getElem?_eq_getElem h1, List.getElem?_eq_getElem h2] at this
  exact this
set_option maxRecDepth 20000 in
set_option maxHeartbeats 1000000 in
theorem texts_any (lo hi lo' hi' : Nat) (a b : Option Addr) (n m c d : Nat) (xs ys : List ByteArray) (w : World) (hx : Row lo hi w (.slice a n c) n (xs.map .string)) (hy : Row lo' hi' w (.slice b m d) m (ys.map .string)) (hn : xs.length = n) (hm : ys.length = m) (hmax : n ≤ 1000000) (hmax2 : m ≤ 1000000) :
    Calls Tryd.prog 14 #[.slice a n c, .slice b m d] w fun e w' => (∃ q, w' = w.drewN q) ∧ e = .returned (.bool (decide (xs = ys))) := by
  by_cases hnm : n = m
  case neg =>
    have hD : decide (xs = ys) = false := decide_eq_false (fun e => hnm (by rw [← hn, ← hm, e]))
    have e1 : ((n : Int) == (m : Int)) = false := by rw [beq_eq_false_iff_ne]; omega
    rw [hD]
    clear hx hy hnm hn hm
    go_enter Tryd.func14, Tryd.ntmps14
    go_wp2_with fail
    go_ret
    exact ⟨⟨0, rfl⟩, rfl⟩
  case pos =>
  subst hnm
  have HX : Hid (∀ i, i < n → ∃ g o, a = some ⟨g, o, none⟩ ∧ w.cell? ⟨g, o + i, none⟩ = some (.string (xs.getD i ⟨#[]⟩))) := fun i hi => row_str hx hn i hi
  have HY : Hid (∀ i, i < n → ∃ g o, b = some ⟨g, o, none⟩ ∧ w.cell? ⟨g, o + i, none⟩ = some (.string (ys.getD i ⟨#[]⟩))) := fun i hi => row_str hy hm i hi
  have HN := hide (And.intro hn hm)
  clear hx hy hn hm
  go_enter Tryd.func14, Tryd.ntmps14
  go_wp2_with fail
  go_loopw [5] (fun vi wr => ∃ i : Nat, i ≤ n ∧ vi = .int .i64 (i : Int) ∧ (∃ q, wr = w.drewN q) ∧ Hid (∀ j, j < i → xs.getD j ⟨#[]⟩ = ys.getD j ⟨#[]⟩)) (fun vi _ => n - (intOf vi).toNat)
  case atStart => exact ⟨0, by omega, rfl, ⟨0, rfl⟩, fun j h => by omega⟩
  case round =>
    obtain ⟨i, hin, rfl, ⟨q, rfl⟩, hlo⟩ := hrel
    by_cases hlt : i < n
    · obtain ⟨g, o, rfl, hcx⟩ := unhide HX i hlt
      obtain ⟨g', o', rfl, hcy⟩ := unhide HY i hlt
      by_cases he : xs.getD i ⟨#[]⟩ = ys.getD i ⟨#[]⟩
      · rw [← he] at hcy
        have hlo' : Hid (∀ j, j < i + 1 → xs.getD j ⟨#[]⟩ = ys.getD j ⟨#[]⟩) := fun j hj => by
          rcases Nat.lt_or_ge j i with h | h
          · exact unhide hlo j h
          · obtain rfl : j = i := by omega
            exact he
        clear he hlo
        generalize xs.getD i ⟨#[]⟩ = z at hcx hcy
        go_wp2_with fail
        go_quiet (fail)
        go_wp2_with fail
        go_roundw
        case rel => exact ⟨i + 1, by omega, by go_num, ⟨_, rfl⟩, hlo'⟩
        case measure => simp [intOf]; try omega
      · have hne := bytes_ne he
        have hD : decide (xs = ys) = false := decide_eq_false (fun e => he (by rw [e]))
        have HD := hide hD
        clear he hD hlo
        generalize xs.getD i ⟨#[]⟩ = z at hcx hne
        generalize ys.getD i ⟨#[]⟩ = z' at hcy hne
        go_wp2_with fail
        go_quiet (fail)
        go_wp2_with fail
        go_ret
        exact ⟨⟨_, World.drewN_drewN _ _ _⟩, by rw [unhide HD]; rfl⟩
    · obtain rfl : i = n := by omega
      have hD : decide (xs = ys) = true := decide_eq_true (list_eq_of (by rw [(unhide HN).1, (unhide HN).2]) (fun j hj => unhide hlo j (by rw [(unhide HN).1] at hj; exact hj)))
      have HD := hide hD
      clear hD
      go_wp2_with fail
      go_ret
      exact ⟨⟨_, rfl⟩, by rw [unhide HD]; rfl⟩
end Go.Proofs.YthfjofmfiklegabDoor
/- known, in the code. -/
namespace Go.Proofs.YthfjofmfiklegabDoor
open Go.RowKit
theorem zero_lies (lo hi : Nat) (w : World) : Lies lo hi w zeroTr [.int .i64 0, .bool false, .slice none 0 0, .slice none 0 0, .slice none 0 0] := by
  unfold zeroTr
  have h : ∀ n, n = 0 → ∀ xs, Row lo hi w (.slice none 0 0) n xs := fun n hn xs => by subst hn; exact ⟨none, 0, rfl, Nat.le_refl _, fun h => absurd h (Nat.lt_irrefl 0)⟩
  exact .mk 0 false ⟨#[]⟩ [] [] _ _ _ [] rfl (h _ rfl _) (h _ rfl _) (h _ rfl _) (fun i t c h1 _ => by simp at h1)
theorem fileX_lies (w : World) : Lies w.heap.size (w.heap.size + 1) (w.alloc (.cells #[.int .u8 120] 5 (1, 2))) fileX [.int .i64 1, .bool false, .slice (some ⟨w.heap.size, 0, none⟩) 1 1, .slice none 0 0, .slice none 0 0] := by
  unfold fileX
  have h : ∀ n, n = 0 → ∀ xs, Row w.heap.size (w.heap.size + 1) (w.alloc (.cells #[.int .u8 120] 5 (1, 2))) (.slice none 0 0) n xs := fun n hn xs => by subst hn; exact ⟨none, 0, rfl, Nat.le_refl _, fun h => absurd h (Nat.lt_irrefl 0)⟩
  have hc : (w.alloc (.cells #[.int .u8 120] 5 (1, 2))).heap[w.heap.size]? = some (.cells #[.int .u8 120] 5 (1, 2)) := by
    show (w.heap.push _)[w.heap.size]? = _
    rw [Array.getElem?_push, if_pos rfl]
  refine .mk 1 false ⟨#[120]⟩ [] [] _ _ _ [] rfl ⟨_, 1, rfl, Nat.le_refl _, fun _ => ⟨w.heap.size, 0, rfl, Nat.le_refl _, by omega, fun j u hj => ?_⟩⟩ (h _ rfl _) (h _ rfl _) (fun i t c h1 _ => by simp at h1)
  rw [cell_of_row _ _ _ _ _ _ hc, Nat.zero_add]
  rw [← Array.getElem?_toList]
  exact hj
set_option maxRecDepth 20000 in
set_option maxHeartbeats 1000000 in
theorem known_any (w : World) : Calls Tryd.prog 6 #[] w fun e w' => e = .returned (.bool true) ∧ Below w.heap.size w w' := by
  obtain ⟨wA, hwA⟩ : ∃ wA, wA = w.alloc (.cells #[.int .u8 120] 5 (1, 2)) := ⟨_, rfl⟩
  have hbA : Below w.heap.size w wA := by rw [hwA]; exact (Below.refl _ _).alloc (Nat.le_refl _) _
  have hsA : wA.heap.size = w.heap.size + 1 := by rw [hwA]; simp
  have HP := hide (put_any emptyDir fileX ⟨#[97, 47, 98]⟩ 0 0 w.heap.size (w.heap.size + 1) _ _ wA (empty_lies 0 0 wA) (by rw [hwA]; exact fileX_lies w) (Nat.zero_le _) (by omega) (by rw [wt_empty]; omega) (by rw [wt_fileX]; omega) (by show 3 ≤ _; omega))
  rw [put_known] at HP
  have hcv := Lib.run_convert_bytes_const w 22 5 #[.int .u8 120] 1 1 Tryd.underlying22 Tryd.underlying5
  have HwA := hide hwA
  have HA := hide hbA
  clear hwA hbA
  go_enter Tryd.func6, Tryd.ntmps6
  go_wp2_with fail
  clear hcv
  have hwA' := unhide HwA
  rw [← hwA']
  refine (unhide HP).mono ?_
  rintro e w1 ⟨hb1, hans⟩
  obtain ⟨cs', rfl, hO⟩ : ∃ cs : List Value, e = .returned (.tuple #[.agg cs.toArray, .int .i64 0]) ∧ Own w1 wA.heap.size w1.heap.size knownT cs := hans
  obtain ⟨q0, q1, f4, g4, h4, f5, g5, h5, f6, g6, h6, rfl⟩ := hO.lies.form
  have hs1 := hb1.size
  obtain ⟨w2, hw2⟩ : ∃ w2, w2 = w1.alloc (.cells #[.int .i64 q0, .bool q1, .slice f4 g4 h4, .slice f5 g5 h5, .slice f6 g6 h6] 26) := ⟨_, rfl⟩
  have hb2 : Below w1.heap.size w1 w2 := by rw [hw2]; exact (Below.refl _ _).alloc (Nat.le_refl _) _
  have hs2 : w2.heap.size = w1.heap.size + 1 := by rw [hw2]; simp
  have hbx2 : Bx w2 w1.heap.size (.int .i64 q0) (.bool q1) (.slice f4 g4 h4) (.slice f5 g5 h5) (.slice f6 g6 h6) := by rw [hw2]; exact bx_new _ _ _ _ _ _
  have HL2 := hide (hO.lies.kept hb2 (Nat.le_refl _))
  have HB2 := hide ((unhide HA).trans ((hb1.mono (by omega)).trans (hb2.mono (by omega))))
  have HF := hide (files_any knownT wA.heap.size w1.heap.size _ w2 (unhide HL2) (by rw [wt_known]; omega) (by omega))
  rw [files_known] at HF
  have Hw2 := hide hw2
  clear hO hb1 hb2 hw2 HP HwA
  go_wp2_with fail
  rw [← unhide Hw2]
  refine (unhide HF).mono ?_
  rintro e w3 ⟨hb3, a3, c3, rfl, hR3⟩
  have hs3 := hb3.size
  have e1 : ([⟨#[97, 47, 98]⟩] : List ByteArray).length = 1 := rfl
  rw [e1] at hR3 ⊢
  have HR3 := hide hR3
  have HB3 := hide hb3
  clear e1 hR3 hb3 HF Hw2
  go_wp2_with fail
  obtain ⟨w4, hw4⟩ : ∃ w4, w4 = w3.alloc (.cells #[.string ⟨#[97, 47, 98]⟩] 9) := ⟨_, rfl⟩
  have hb4 : Below w3.heap.size w3 w4 := by rw [hw4]; exact (Below.refl _ _).alloc (Nat.le_refl _) _
  have hs4 : w4.heap.size = w3.heap.size + 1 := by rw [hw4]; simp
  have HX := hide (texts_any w2.heap.size w3.heap.size w3.heap.size (w3.heap.size + 1) a3 (some ⟨w3.heap.size, 0, none⟩) 1 1 c3 1 [⟨#[97, 47, 98]⟩] [⟨#[97, 47, 98]⟩] w4 ((unhide HR3).below hb4 (Nat.le_refl _)) (by rw [hw4]; exact one_row w3 [.string ⟨#[97, 47, 98]⟩] 9) rfl rfl (by omega) (by omega))
  rw [← hw4]
  refine (unhide HX).mono ?_
  rintro e w5 ⟨⟨q, rfl⟩, rfl⟩
  have hd : decide (([⟨#[97, 47, 98]⟩] : List ByteArray) = [⟨#[97, 47, 98]⟩]) = true := decide_eq_true rfl
  rw [hd]
  obtain ⟨w6, hw6⟩ : ∃ w6, w6 = w4.drewN q := ⟨_, rfl⟩
  rw [← hw6]
  have hb6 : Below w2.heap.size w2 w6 := by rw [hw6]; exact below_drewN ((unhide HB3).trans (hb4.mono hs3)) q
  have hs6 := hb6.size
  have hbx6 := hbx2.kept hb6 (by omega)
  obtain ⟨y0, y1, y2, y3, y4⟩ := hbx6.cells
  have HC := hide (check_any knownT wA.heap.size w1.heap.size _ w6 ((unhide HL2).kept hb6 (by omega)) (by rw [wt_known]; omega) (by omega))
  rw [chk_known] at HC
  have HB6 := hide ((unhide HB2).trans (hb6.mono (by omega)))
  clear hd hw6 hw4 HX HR3 HB3 hb4 hb6
  go_wp2_with fail
  refine (unhide HC).mono ?_
  rintro e w7 ⟨rfl, hb7⟩
  have hs7 := hb7.size
  have HB7 := hide ((unhide HB6).trans (hb7.mono (by omega)))
  have HC2 := hide (check_any zeroTr 0 0 _ w7 (zero_lies 0 0 w7) (by rw [wt_zero]; omega) (Nat.zero_le _))
  rw [chk_zero] at HC2
  clear hb7 HC y0 y1 y2 y3 y4
  go_wp2_with fail
  refine (unhide HC2).mono ?_
  rintro e w8 ⟨rfl, hb8⟩
  go_wp2_with fail
  go_ret
  exact ⟨rfl, (unhide HB7).trans (hb8.mono (by omega))⟩
end Go.Proofs.YthfjofmfiklegabDoor
