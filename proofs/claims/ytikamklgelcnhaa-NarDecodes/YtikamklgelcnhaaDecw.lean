/- NarDecodes, in the code. -/
import Derived.Test.YtikamklgelcnhaaRoom
namespace Go.Proofs.Ytikamklgelcnhaa
open Go.RowKit
set_option linter.unusedSimpArgs false
theorem wt_dec {B : List UInt8} (hB : B.length ≤ 20000) : wt (decS B).1 ≤ 100000 ∧ (decS B).1.dat.size ≤ 2000000 := by
  by_cases h : (decS B).2 = 0
  · have := (dec_zero h).2.2
    refine ⟨by omega, ?_⟩
    have hw : wt (decS B).1 ≤ 100000 := by omega
    generalize (decS B).1 = T at *
    cases T with
    | mk k x d ns ks => rw [wt] at hw; show d.size ≤ _; omega
  · have e : (decS B).1 = tr0 := by
      cases hq : chkS (treeS B (.ok (0, 0))).2 (endS B (treeS B (.ok (0, 0))).1) with
      | error E => rw [decS_err hq]
      | ok q => rw [decS_ok hq] at h; exact absurd rfl h
    rw [e]
    refine ⟨?_, Nat.zero_le _⟩
    unfold tr0
    rw [wt]
    simp [tenths, wts, ByteArray.size]
set_option maxRecDepth 20000 in
set_option maxHeartbeats 4000000 in
theorem decodes_any (B : List UInt8) (lo hi : Nat) (b : Value) (w : World) (hb : Row lo hi w b B.length (bv B)) (hhi : hi ≤ w.heap.size) (hBm : B.length ≤ 140737488351232) :
    Calls Try.prog 4 #[b] w fun e w' => e = .returned (.bool true) ∧ Below w.heap.size w w' := by
  obtain ⟨ab, cb, rfl, hcb⟩ := hb.slice
  by_cases hbl : 20000 < B.length
  · clear hb
    generalize B.length = nb at *
    go_enter Try.func4, Try.ntmps4
    go_wp2_with fail
    go_ret
    exact ⟨rfl, Below.refl _ _⟩
  have H1 := hide (roomy_any lo hi ab cb B w hb hhi (by omega))
  have HRb := hide hb
  clear hb
  go_enter Try.func4, Try.ntmps4
  go_wp2_with fail
  refine (unhide H1).mono ?_
  rintro e w1 ⟨a1, c1, rfl, hr1, hb1⟩
  have hs1 := hb1.size
  have hc1 : B.length + 1 ≤ c1 := by obtain ⟨_, c', e, h, _⟩ := hr1; cases e; exact h
  have hr1' : Row w.heap.size w1.heap.size w1 (.slice a1 B.length c1) B.length (bv B) := by
    have := row_pre hr1 (show B.length ≤ B.length + 1 by omega)
    rw [bv_append, List.take_left' (bv_length B)] at this
    exact this
  have H2 := hide (decode_any w.heap.size w1.heap.size _ B w1 hr1' hs1 (Nat.le_refl _) (by omega) (wt_read (by omega)))
  have HB1 := hide hb1
  have HR1 := hide hr1
  have HQD := hide (fun (W : World) (hW : Below w1.heap.size w1 W) => qdecode_any lo hi _ B W (((unhide HRb).below hb1 hhi).below hW (by omega)) (by have := hW.size; omega) (by omega) (wt_read (by omega)))
  obtain ⟨hw1, hw2⟩ := wt_dec (B := B) (by omega)
  have hcc : B.length ≤ c1 := by omega
  clear hb1 hr1 hr1' H1 hc1
  generalize decS B = R at *
  obtain ⟨T, E⟩ := R
  replace hw1 : wt T ≤ 100000 := hw1
  replace hw2 : T.dat.size ≤ 2000000 := hw2
  have HW := hide (And.intro hw1 hw2)
  clear hw1 hw2 hcb
  go_wp2_with fail
  refine (unhide H2).mono ?_
  rintro e w2 ⟨hb2, k2, x2, q1, r1, q2, o2, r2, q3, o3, r3, rfl, hL2, ho2⟩
  have hs2 := hb2.size
  have hba : Below w2.heap.size w2 (w2.alloc (.cells #[.int .i64 k2, .bool x2, .slice q1 T.dat.size r1, .slice q2 o2 r2, .slice q3 o3 r3] 26)) := (Below.refl _ _).alloc (Nat.le_refl _) _
  have H3 := hide (unhide HQD _ (hb2.trans (hba.mono hs2)))
  have hx2 : Bx (w2.alloc (.cells #[.int .i64 k2, .bool x2, .slice q1 T.dat.size r1, .slice q2 o2 r2, .slice q3 o3 r3] 26)) w2.heap.size (.int .i64 k2) (.bool x2) (.slice q1 T.dat.size r1) (.slice q2 o2 r2) (.slice q3 o3 r3) := bx_new _ _ _ _ _ _
  have HA := hide (And.intro (hb2.trans (hba.mono hs2)) (And.intro hx2 (And.intro (hL2.kept hba (Nat.le_refl _)) (ho2.alloc (.cells #[.int .i64 k2, .bool x2, .slice q1 T.dat.size r1, .slice q2 o2 r2, .slice q3 o3 r3] 26)))))
  have hsa : (w2.alloc (.cells #[.int .i64 k2, .bool x2, .slice q1 T.dat.size r1, .slice q2 o2 r2, .slice q3 o3 r3] 26)).heap.size = w2.heap.size + 1 := by simp
  clear hb2 hba hx2 hL2 ho2 H2 HQD
  go_wp2_with fail
  generalize w2.alloc (.cells #[.int .i64 k2, .bool x2, .slice q1 T.dat.size r1, .slice q2 o2 r2, .slice q3 o3 r3] 26) = wa at *
  refine (unhide H3).mono ?_
  rintro e w3 ⟨hb3, k3, x3, s1, t1, u1, s2, t2, u2, s3, t3, u3, rfl, hL3⟩
  have hs3 := hb3.size
  obtain ⟨hbA, hxA, hLA, hoA⟩ := unhide HA
  have hx3 := hxA.kept hb3 (by omega)
  obtain ⟨y0, y1, y2, y3, y4⟩ := hx3.cells
  have hlt3 : w2.heap.size < w3.heap.size := by omega
  have hbb : Below w3.heap.size w3 (w3.alloc (.cells #[.int .i64 k3, .bool x3, .slice s1 t1 u1, .slice s2 t2 u2, .slice s3 t3 u3] 26)) := (Below.refl _ _).alloc (Nat.le_refl _) _
  have HEQ := hide (equal_any T T w1.heap.size w2.heap.size wa.heap.size w3.heap.size _ _ _ ((hLA.kept hb3 (by omega)).kept hbb (by omega)) (hL3.kept hbb (Nat.le_refl _)) (unhide HW).1 (unhide HW).1 (by have := hbb.size; omega) hbb.size)
  have HA3 := hide (And.intro (hbA.trans (hb3.mono (by have := hbA.size; omega))) (And.intro hx3 (owns_same (base' := w1.heap.size) hoA (fun g hg => hb3.block g (owns_lt hoA g hg).2) (fun _ _ h => h))))
  have HBB := hide hbb
  clear hbA hxA hLA hoA hx3 hb3 hL3 hbb H3 HA
  go_wp2_with fail
  generalize hwb : w3.alloc (.cells #[.int .i64 k3, .bool x3, .slice s1 t1 u1, .slice s2 t2 u2, .slice s3 t3 u3] 26) = wb at *
  clear hwb
  refine (unhide HEQ).mono ?_
  rintro e w4 ⟨hb4, hans⟩
  obtain rfl : e = .returned (.bool true) := by
    rcases hans with ⟨_, h⟩ | ⟨h, _⟩
    · exact h
    · exact absurd rfl h
  have hsb := (unhide HBB).size
  have hs4 := hb4.size
  have hb34 : Below w3.heap.size w3 w4 := (unhide HBB).trans (hb4.mono hsb)
  obtain ⟨hb13, hx3, ho3⟩ := unhide HA3
  have hs13 := hb13.size
  have hx4 := hx3.kept hb34 hlt3
  have hb14 := hb13.trans (hb34.mono hs13)
  have ho4 : w4.ownsRow w1.heap.size 5 1 (.slice q1 T.dat.size r1) T.dat.size (byteVals T.dat) := owns_same ho3 (fun g hg => hb34.block g (owns_lt ho3 g hg).2) (fun _ _ h => h)
  have H5 := hide (spoil_any w1.heap.size q1 r1 (sB T.dat) w4 ho4 (unhide HW).2 (by omega))
  have HB14 := hide hb14
  clear y0 y1 y2 y3 y4
  obtain ⟨y0, y1, y2, y3, y4⟩ := hx4.cells
  clear hans hb4 hb34 hb13 hx3 ho3 hx4 hb14 ho4 HEQ HA3 HBB hs13 hsb
  go_wp2_with fail
  refine (unhide H5).mono ?_
  rintro e w5 ⟨rfl, hb5⟩
  have hs5 := hb5.size
  have hb15 := (unhide HB14).trans hb5
  have H6 := hide (stands_any w.heap.size w1.heap.size lo hi a1 ab c1 cb B w5 ((unhide HR1).below hb15 (Nat.le_refl _)) (((unhide HRb).below (unhide HB1) hhi).below hb15 (by omega)) (by omega))
  have HB15 := hide ((unhide HB1).trans (hb15.mono hs1))
  clear hb5 hb15 H5 HB14 y0 y1 y2 y3 y4
  go_wp2_with fail
  refine (unhide H6).mono ?_
  rintro e w6 ⟨rfl, hb6⟩
  have hs6 := hb6.size
  go_wp2_with fail
  refine (known_any _).mono ?_
  rintro e wk ⟨rfl, hbk⟩
  have hsk := hbk.size
  have hf := ((unhide HB15).trans (hb6.mono (by have := (unhide HB15).size; omega))).trans (hbk.mono (by have := (unhide HB15).size; omega))
  have HF := hide hf
  clear hf hb6 hbk
  go_wp2_with fail
  go_ret
  exact ⟨rfl, unhide HF⟩
end Go.Proofs.Ytikamklgelcnhaa
