/- NarSplits, in the code. -/
import Derived.Test.YtikamklgelcnhaaCutw
import Derived.Test.YtikamklgelcnhaaK8
namespace Go.Proofs.Ytikamklgelcnhaa
open Go.RowKit
set_option linter.unusedSimpArgs false
/-- Bytes are laid behind bytes of one's own. -/
theorem more_bytes (w : World) (base lo hi : Nat) (v : Value) (n : Nat) (ys : List UInt8) (a : Option Addr) (m c : Nat) (xs : List UInt8) (ho : w.ownsRow base 5 1 v n (bv ys)) (hr : Row lo hi w (.slice a m c) m (bv xs)) (hx : xs.length = m) (hmax : n + m ≤ 100000000) (hbase : base ≤ w.heap.size) :
    ∃ a1 c1 w1, (∀ ty, (app22 ty #[v, .slice a m c]).run Try.prog w = .ok (.slice a1 (n + m) c1) w1) ∧ w1.ownsRow base 5 1 (.slice a1 (n + m) c1) (n + m) (bv (ys ++ xs)) ∧ Below base w w1 := by
  obtain ⟨v1, w1, happ, ho1, hg, _⟩ := app22_own w base lo hi v n (bv ys) a m c (bv xs) ho hr (by rw [bv_length]; exact hx) (bv_one xs) hmax hbase
  obtain ⟨a1, c1, rfl, _⟩ := owns_slice ho1
  exact ⟨a1, c1, w1, happ, by rw [bv_append]; exact ho1, (Below.refl base w).grown hg (by omega) (fun k hk => (owns_lt ho k hk).1)⟩
set_option maxRecDepth 20000 in
set_option maxHeartbeats 4000000 in
theorem splits_any (T : Tr) (B : List UInt8) (lo hi : Nat) (ct : List Value) (b : Value) (w : World) (hT : Lies lo hi w T ct) (hb : Row lo hi w b B.length (bv B)) (hlo : lo ≤ hi) (hhi : hi ≤ w.heap.size) (hF : Fit T) (hBm : B.length ≤ 140737488351232) :
    Calls Try.prog 6 #[.agg ct.toArray, b] w fun e w' => e = .returned (.bool true) ∧ Below w.heap.size w w' := by
  obtain ⟨kt, xt, at0, nt, ct, bt, mt, dt, et, pt, qt, rfl⟩ := hT.form
  obtain ⟨ab, cb, rfl, hcb⟩ := hb.slice
  obtain ⟨wA, hwA⟩ : ∃ wA, wA = w.alloc (.cells #[.int .i64 kt, .bool xt, .slice at0 nt ct, .slice bt mt dt, .slice et pt qt] 26) := ⟨_, rfl⟩
  have hbA : Below w.heap.size w wA := by rw [hwA]; exact (Below.refl _ _).alloc (Nat.le_refl _) _
  have hsA : wA.heap.size = w.heap.size + 1 := by rw [hwA]; simp
  have hB : Box1 w wA (.int .i64 kt) (.bool xt) (.slice at0 nt ct) (.slice bt mt dt) (.slice et pt qt) := ⟨hbA, by omega, by rw [hwA]; exact bx_new w _ _ _ _ _⟩
  have HL := hide (And.intro hT hb)
  have HH1 := hide (heavy_any T lo hi _ wA (hT.kept hbA hhi) hF (by omega))
  have HwA := hide hwA
  have HB := hide hB
  clear hwA hbA hT hb hF hB
  go_enter Try.func6, Try.ntmps6
  go_wp2_with fail
  rw [← unhide HwA]
  refine (unhide HH1).mono ?_
  rintro e w1 ⟨hb1, hans⟩
  have hs1 := hb1.size
  have HB1 := hide ((unhide HB).kept hb1 (by omega))
  clear hb1 HH1 HB HwA
  rcases hans with rfl | ⟨rfl, hwt⟩
  · go_wp2_with fail
    go_ret
    exact ⟨rfl, (unhide HB1).b⟩
  by_cases hbl : 20000 < B.length
  · generalize B.length = nb at *
    go_wp2_with fail
    go_ret
    exact ⟨rfl, (unhide HB1).b⟩
  have H2 := hide (split_any lo hi _ B w1 ((unhide HL).2.below (unhide HB1).b hhi) hlo (by omega) (by omega) (wt_read (by omega)))
  have H3 := hide (fun (W : World) (hW : Below w1.heap.size w1 W) => qsplit_any lo hi _ B W (((unhide HL).2.below (unhide HB1).b hhi).below hW (by omega)) (by have := hW.size; omega) (by omega) (wt_read (by omega)))
  generalize splS B = R at *
  obtain ⟨sn, se⟩ := R
  go_wp2_with fail
  refine (unhide H2).mono ?_
  rintro e w2 ⟨rfl, hb2⟩
  have hs2 := hb2.size
  have HB2 := hide ((unhide HB1).kept hb2 (by omega))
  have H3' := hide (unhide H3 w2 hb2)
  clear hb2 H2 H3 HB1
  go_wp2_with fail
  refine (unhide H3').mono ?_
  rintro e w3 ⟨rfl, hb3⟩
  have hs3 := hb3.size
  have HB3 := hide ((unhide HB2).kept hb3 (by omega))
  clear hb3 H3' HB2
  have HE1 := hide (encode_any T lo hi _ w3 ((unhide HL).1.kept (unhide HB3).b hhi) hwt (by omega))
  obtain ⟨y0, y1, y2, y3, y4⟩ := (unhide HB3).t.cells
  go_wp2_with fail
  refine (unhide HE1).mono ?_
  rintro e w4 ⟨hb4, a4, c4, rfl, hr4⟩
  have hs4 := hb4.size
  have HB4 := hide ((unhide HB3).kept hb4 (by omega))
  have hl1 := enc_len hwt
  have HR4 := hide hr4
  clear hb4 HE1 HB3 y0 y1 y2 y3 y4 hr4
  by_cases hc : (chk T 1 0).1 = 0
  case neg =>
    have hne := ne0 hc
    clear hc HR4
    generalize (chk T 1 0).1 = c1 at *
    go_wp2_with fail
    refine (known_any _).mono ?_
    rintro e wk ⟨rfl, hbk⟩
    have hsk := hbk.size
    go_wp2_with fail
    go_ret
    exact ⟨rfl, (unhide HB4).b.trans (hbk.mono (by omega))⟩
  rw [enc_ok hc] at hl1 HR4 ⊢
  rw [hc]
  obtain ⟨M, hM⟩ : ∃ M, M = narB T := ⟨_, rfl⟩
  rw [← hM] at hl1 HR4 ⊢
  obtain ⟨a5, c5, w5, happ5, ho5, hb5⟩ := copy_bytes w4 w3.heap.size w4.heap.size a4 M.length c4 M (unhide HR4) rfl (by omega) (Nat.le_refl _)
  have hs5 := hb5.size
  have hrb : Row lo hi w5 (.slice ab B.length cb) B.length (bv B) := ((unhide HL).2.below (unhide HB4).b hhi).below hb5 (by omega)
  obtain ⟨a6, c6, w6, happ6, ho6, hb6⟩ := more_bytes w5 w4.heap.size lo hi _ M.length M ab B.length cb B ho5 hrb rfl (by omega) (by omega)
  have hs6 := hb6.size
  have hb46 : Below w4.heap.size w4 w6 := hb5.trans hb6
  have HB6 := hide ((unhide HB4).kept hb46 (by have := (unhide HB4).s; omega))
  have hr6 : Row w4.heap.size w6.heap.size w6 (.slice a6 (M.length + B.length) c6) (M ++ B).length (bv (M ++ B)) := by
    rw [List.length_append]
    exact owns_row ho6 (owns_lt ho6)
  have H7 : Hid (Calls Try.prog 23 #[.slice a6 (M.length + B.length) c6] w6 fun e w' => e = .returned (.tuple #[.int .i64 (M.length : Int), .int .i64 0]) ∧ Below w6.heap.size w6 w') := by
    have := split_any _ _ _ (M ++ B) w6 hr6 (by omega) (Nat.le_refl _) (by simp; omega) (by rw [hM]; exact wt_w hc hwt B)
    rw [hM, spl_w hc, ← hM] at this
    exact this
  clear ho5 ho6 hb5 hb6 hb46 hr6 hrb HR4 HB4 hM
  go_wp2_with fail
  refine (unhide H7).mono ?_
  rintro e w7 ⟨rfl, hb7⟩
  have hs7 := hb7.size
  have HB7 := hide ((unhide HB6).kept hb7 (by have := (unhide HB6).s; omega))
  clear hb7 H7 HB6 happ5 happ6
  go_wp2_with fail
  refine (known_any _).mono ?_
  rintro e wk ⟨rfl, hbk⟩
  have hsk := hbk.size
  go_wp2_with fail
  go_ret
  exact ⟨rfl, (unhide HB7).b.trans (hbk.mono (by have := (unhide HB7).s; omega))⟩
end Go.Proofs.Ytikamklgelcnhaa
