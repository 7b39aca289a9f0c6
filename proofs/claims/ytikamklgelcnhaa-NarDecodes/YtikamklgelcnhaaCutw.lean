/- NarCuts, in the code. -/
import Derived.Test.YtikamklgelcnhaaBack
namespace Go.Proofs.Ytikamklgelcnhaa
open Go.RowKit
set_option linter.unusedSimpArgs false
theorem and_small (z : Int) : ∃ q : Nat, q ≤ 1073741823 ∧ bits .and .i64 z 1073741823 = (q : Int) := by
  refine ⟨(BitVec.ofInt 64 z &&& BitVec.ofInt 64 1073741823).toNat, ?_, ?_⟩
  · rw [BitVec.toNat_and]
    exact Nat.le_trans Nat.and_le_right (by decide)
  · have h : (BitVec.ofInt 64 z &&& BitVec.ofInt 64 1073741823).toNat ≤ 1073741823 := by
      rw [BitVec.toNat_and]
      exact Nat.le_trans Nat.and_le_right (by decide)
    show IntKind.i64.wrap (((BitVec.ofInt 64 z &&& BitVec.ofInt 64 1073741823).toNat : Nat) : Int) = _
    exact IntWalk.i64_in _ (by omega)
theorem cut_at (z : Int) (n : Nat) (hn : 0 < n) : ∃ k : Nat, k < n ∧ (bits .and .i64 z 1073741823).tmod (n : Int) = (k : Int) := by
  obtain ⟨q, _, hq⟩ := and_small z
  refine ⟨q % n, Nat.mod_lt _ hn, ?_⟩
  rw [hq]; rfl
theorem row_pre {lo hi : Nat} {w : World} {a : Option Addr} {n c k : Nat} {xs : List Value} (h : Row lo hi w (.slice a n c) n xs) (hk : k ≤ n) : Row lo hi w (.slice a k c) k (xs.take k) := by
  obtain ⟨a', c', e, hc, hx⟩ := h
  cases e
  refine ⟨a, c, rfl, by omega, fun h0 => ?_⟩
  obtain ⟨g, o, ea, h1, h2, hcell⟩ := hx (by omega)
  refine ⟨g, o, ea, h1, h2, fun j u hj => hcell j u ?_⟩
  rw [List.getElem?_take] at hj
  split at hj
  · exact hj
  · cases hj
/-- Bytes are copied behind an empty literal. -/
theorem copy_bytes (w : World) (lo hi : Nat) (a : Option Addr) (m c : Nat) (xs : List UInt8) (hr : Row lo hi w (.slice a m c) m (bv xs)) (hx : xs.length = m) (hmax : m ≤ 100000000) (hhi : hi ≤ w.heap.size) :
    ∃ a1 c1 w1, (∀ ty, (app22 ty #[.slice (some ⟨w.heap.size, 0, none⟩) 0 0, .slice a m c]).run Try.prog (w.alloc (.cells #[] 5)) = .ok (.slice a1 m c1) w1) ∧ w1.ownsRow w.heap.size 5 1 (.slice a1 m c1) m (bv xs) ∧ Below w.heap.size w w1 := by
  have hb : Below w.heap.size w (w.alloc (.cells #[] 5)) := (Below.refl _ _).alloc (Nat.le_refl _) _
  obtain ⟨v1, w1, happ, ho, hg, _⟩ := app22_own _ _ lo hi _ 0 [] a m c (bv xs) (owns_new w 5 1) (hr.below hb hhi) (by rw [bv_length]; exact hx) (bv_one xs) (by omega) (by simp)
  rw [Nat.zero_add, List.nil_append] at ho
  obtain ⟨a1, c1, rfl, _⟩ := owns_slice ho
  exact ⟨a1, c1, w1, happ, ho, hb.grown hg (by simp) (fun k hk => by simp [Value.ownBlock] at hk; omega)⟩
set_option maxRecDepth 20000 in
set_option maxHeartbeats 4000000 in
theorem cuts_any (T : Tr) (z : Int) (lo hi : Nat) (ct : List Value) (w : World) (hT : Lies lo hi w T ct) (hhi : hi ≤ w.heap.size) (hF : Fit T) :
    Calls Try.prog 7 #[.agg ct.toArray, .int .i64 z] w fun e w' => e = .returned (.bool true) ∧ Below w.heap.size w w' := by
  obtain ⟨kt, xt, at0, nt, ct, bt, mt, dt, et, pt, qt, rfl⟩ := hT.form
  obtain ⟨wA, hwA⟩ : ∃ wA, wA = w.alloc (.cells #[.int .i64 kt, .bool xt, .slice at0 nt ct, .slice bt mt dt, .slice et pt qt] 26) := ⟨_, rfl⟩
  have hbA : Below w.heap.size w wA := by rw [hwA]; exact (Below.refl _ _).alloc (Nat.le_refl _) _
  have hsA : wA.heap.size = w.heap.size + 1 := by rw [hwA]; simp
  have hB : Box1 w wA (.int .i64 kt) (.bool xt) (.slice at0 nt ct) (.slice bt mt dt) (.slice et pt qt) := ⟨hbA, by omega, by rw [hwA]; exact bx_new w _ _ _ _ _⟩
  have HL := hide hT
  have HH1 := hide (heavy_any T lo hi _ wA (hT.kept hbA hhi) hF (by omega))
  have HwA := hide hwA
  have HB := hide hB
  clear hwA hbA hT hF hB
  go_enter Try.func7, Try.ntmps7
  go_wp2_with fail
  rw [← unhide HwA]
  refine (unhide HH1).mono ?_
  rintro e w1 ⟨hb1, hans⟩
  have hs1 := hb1.size
  have HB1 := hide ((unhide HB).kept hb1 (by omega))
  clear hb1 HH1 HB HwA
  rcases hans with rfl | ⟨rfl, hwt⟩
  · go_wp2_with fail
    go_ret
    exact ⟨rfl, (unhide HB1).b⟩
  have HE1 := hide (encode_any T lo hi _ w1 ((unhide HL).kept (unhide HB1).b hhi) hwt (by omega))
  obtain ⟨y0, y1, y2, y3, y4⟩ := (unhide HB1).t.cells
  go_wp2_with fail
  refine (unhide HE1).mono ?_
  rintro e w2 ⟨hb2, a2, c2, rfl, hr2⟩
  have hs2 := hb2.size
  have HB2 := hide ((unhide HB1).kept hb2 (by omega))
  have hl1 := enc_len hwt
  have HR2 := hide hr2
  clear hb2 HE1 HB1 y0 y1 y2 y3 y4 hr2
  by_cases hc : (chk T 1 0).1 = 0
  case neg =>
    have hne := ne0 hc
    generalize (chk T 1 0).1 = c1 at *
    go_wp2_with fail
    refine (known_any _).mono ?_
    rintro e wk ⟨rfl, hbk⟩
    have hsk := hbk.size
    go_wp2_with fail
    go_ret
    exact ⟨rfl, (unhide HB2).b.trans (hbk.mono (by omega))⟩
  have hbig := nar_big T
  rw [enc_ok hc] at hl1 HR2 ⊢
  rw [hc]
  obtain ⟨M, hM⟩ : ∃ M, M = narB T := ⟨_, rfl⟩
  rw [← hM] at hl1 HR2 hbig ⊢
  have HM := hide hM
  clear hM
  obtain ⟨kk, hkk, hke⟩ := cut_at z M.length (by omega)
  have hMc : M.length ≤ c2 := by obtain ⟨_, c', e, h, _⟩ := unhide HR2; cases e; exact h
  have hkc : (kk : Int) ≤ (c2 : Int) := by omega
  have HD1 : Hid (Calls Try.prog 19 #[.slice a2 kk c2] w2 (DecA tr0 2 w2)) := by
    have hlen : (M.take kk).length = kk := by rw [List.length_take]; omega
    have hm := unhide HM
    have := decode_any w1.heap.size w2.heap.size (.slice a2 kk c2) (M.take kk) w2 (by
      rw [hlen]
      have := row_pre (unhide HR2) (Nat.le_of_lt hkk)
      unfold bv at this ⊢
      rw [List.map_take]
      exact this) hs2 (Nat.le_refl _) (by omega) (by rw [hm]; exact wt_less hc (by rw [← hm]; exact hkk))
    rw [hm, dec_less hc (by rw [← hm]; exact hkk)] at this
    exact this
  go_wp2_with fail
  refine (unhide HD1).mono ?_
  rintro e w3 ⟨hb3, k3, x3, q1, r1, q2, o2, r2, q3, o3, r3, rfl, hL3, -⟩
  have hs3 := hb3.size
  have HB3 := hide ((unhide HB2).kept hb3 (by omega))
  have HR3 := hide ((unhide HR2).below hb3 (Nat.le_refl _))
  clear hb3 HD1 HB2 hL3 HR2 hke hkc
  have hba : Below w3.heap.size w3 (w3.alloc (.cells #[.int .i64 k3, .bool x3, .slice q1 tr0.dat.size r1, .slice q2 o2 r2, .slice q3 o3 r3] 26)) := (Below.refl _ _).alloc (Nat.le_refl _) _
  obtain ⟨a4, c4, w4, happ4, ho4, hb4⟩ := copy_bytes _ w1.heap.size w2.heap.size a2 M.length c2 M ((unhide HR3).below hba (by omega)) rfl (by omega) (by have := hba.size; omega)
  have hs4 := hb4.size
  rw [World.size_alloc] at happ4 ho4 hb4 hs4
  obtain ⟨a5, c5, w5, happ5, ho5, hb5, hs5⟩ := byte_app w4 (w3.heap.size + 1) _ M.length M 0 ho4 (by omega) hs4
  have happ5' : ∀ ty, (app22 ty #[.slice a4 M.length c4, .slice (some ⟨w4.heap.size, 0, none⟩) 1 1]).run Try.prog (w4.alloc (.cells #[.int .u8 0] 5)) = .ok (.slice a5 (M.length + 1) c5) w5 := happ5
  have hb35 : Below w3.heap.size w3 w5 := (hba.trans (hb4.mono (by omega))).trans (hb5.mono (by omega))
  have HB5 := hide ((unhide HB3).kept hb35 (by omega))
  have hr5 : Row (w3.heap.size + 1) w5.heap.size w5 (.slice a5 (M.length + 1) c5) (M ++ [0]).length (bv (M ++ [0])) := by
    rw [List.length_append]
    exact owns_row ho5 (owns_lt ho5)
  have HD2 : Hid (Calls Try.prog 19 #[.slice a5 (M.length + 1) c5] w5 (DecA tr0 3 w5)) := by
    have hm := unhide HM
    have := decode_any _ _ _ (M ++ [0]) w5 hr5 (by omega) (Nat.le_refl _) (by simp; omega) (by rw [hm]; exact wt_w hc hwt [0])
    rw [hm, dec_more hc] at this
    rw [← hm] at this
    exact this
  clear hba happ5 hb35 hr5 ho5 hb5 ho4 hb4 HB3 HR3
  go_wp2_with fail
  refine (unhide HD2).mono ?_
  rintro e w6 ⟨hb6, k6, x6, q4, r4, q5, o5, r5, q6, o6, r6, rfl, hL6, -⟩
  have hs6 := hb6.size
  have HB6 := hide ((unhide HB5).kept hb6 (by have := (unhide HB5).s; omega))
  clear hb6 HD2 HB5 hL6 happ4 happ5'
  go_wp2_with fail
  refine (known_any _).mono ?_
  rintro e wk ⟨rfl, hbk⟩
  have hsk := hbk.size
  go_wp2_with fail
  go_ret
  exact ⟨rfl, (unhide HB6).b.trans (((Below.refl w6.heap.size w6).alloc (Nat.le_refl _) _).mono (by have := (unhide HB6).s; omega) |>.trans (hbk.mono (by have := (unhide HB6).s; simp; omega)))⟩
end Go.Proofs.Ytikamklgelcnhaa
