/- LocksRun: the walk. -/
import Derived.Test.YtnlfmmempomcaaaQi
import Derived.Laws.EntriesVeiled
import Derived.Deep.RegionWith
namespace Go.Proofs.Ytnlfmmempomcaaa
open Go.RowKit Go.Maps
set_option linter.unusedSimpArgs false
theorem run_start {rb : Nat} {w w1 : World} (h : RLeft 0 w.heap.size rb ⟨[], 0, false, 0⟩ (fun _ => none) w w1) :
    RSt rb w1.heap.size (w1.heap.size + 1) 0 none w ((w1.alloc (.cells #[.slice none 0 0, .slice none 0 0, .int .i64 0] 57)).alloc (.cells #[.slice none 0 0] 38)) := by
  obtain ⟨O1, h1, h2, h3⟩ := h
  have hM1 := h2.alloc 2 w1.heap.size [.slice none 0 0, .slice none 0 0, .int .i64 0] 57
  have hs1 : Stp 2 w.heap.size O1 _ w1 _ := Stp.alloc h2 h3.size ⟨2, w1.heap.size, .raw [.slice none 0 0, .slice none 0 0, .int .i64 0] 57⟩ (.cells #[.slice none 0 0, .slice none 0 0, .int .i64 0] 57)
  obtain ⟨W1, hW1⟩ : ∃ W1, W1 = w1.alloc (.cells #[.slice none 0 0, .slice none 0 0, .int .i64 0] 57) := ⟨_, rfl⟩
  obtain ⟨O2, hO2⟩ : ∃ O2, O2 = put O1 w1.heap.size ⟨2, w1.heap.size, .raw [.slice none 0 0, .slice none 0 0, .int .i64 0] 57⟩ := ⟨_, rfl⟩
  rw [← hO2, ← hW1] at hs1
  have hM1' : Mem 0 O2 W1 := by rw [hO2, hW1]; exact hM1
  have z1 : W1.heap.size = w1.heap.size + 1 := by rw [hW1, World.size_alloc]
  have hM2 := hM1'.alloc 7 W1.heap.size [.slice none 0 0] 38
  have hs2 : Stp 7 w.heap.size O2 _ W1 _ := Stp.alloc hM1' (Nat.le_trans h3.size hs1.size) ⟨7, W1.heap.size, .raw [.slice none 0 0] 38⟩ (.cells #[.slice none 0 0] 38)
  rw [← hW1, ← z1]
  have b1 : (put O2 W1.heap.size ⟨7, W1.heap.size, .raw [.slice none 0 0] 38⟩) w1.heap.size = some ⟨2, w1.heap.size, .raw [.slice none 0 0, .slice none 0 0, .int .i64 0] 57⟩ := by rw [put_other _ _ (by omega), hO2, put_same]
  refine ⟨_, ⟨[], 0, false, 0⟩, ⟨fun _ => false, fun _ => false, 0, 0⟩, fun _ => 0, h1.keep fun q o e hq => hs2.keep _ _ (hs1.keep q o e (by omega)) (by omega), ⟨_, _, b1, .inl ⟨rfl, rfl⟩, .inl ⟨rfl, rfl⟩, by decide⟩, ⟨_, put_same _ _ _, .inl ⟨rfl, rfl⟩⟩, ⟨rfl, rfl, rfl, rfl, fun j hj => (by cases hj), fun j hj => (by cases hj), fun i hi => (by exact absurd hi (Nat.not_lt_zero _))⟩, hM2, (h3.frm.trans hs1.frm).trans hs2.frm, Nat.le_refl _, Nat.le_refl _, trivial⟩
/-- What is read of the script. -/
def Acts (w : World) (a : Option Addr) (len : Nat) : Prop := ∀ i, i < len → ∃ b off z n d, a = some ⟨b, off, none⟩ ∧ b < w.heap.size ∧ w.cell? ⟨b, off + i * 3, none⟩ = some (.int .i64 z) ∧ w.cell? ⟨b, off + i * 3 + 1, none⟩ = some (.int .i64 n) ∧ w.cell? ⟨b, off + i * 3 + 2, none⟩ = some (.bool d) ∧ (-9223372036854775808 ≤ n ∧ n ≤ 9223372036854775807)
theorem RSt.acts {rb wb lb i : Nat} {x : Option (Nat × Int × Int × Bool)} {w wr : World} (h : RSt rb wb lb i x w wr) {a : Option Addr} {len : Nat} (ha : Acts w a len) {j : Nat} (hj : j < len) : ∃ b off z n d, a = some ⟨b, off, none⟩ ∧ wr.cell? ⟨b, off + j * 3, none⟩ = some (.int .i64 z) ∧ wr.cell? ⟨b, off + j * 3 + 1, none⟩ = some (.int .i64 n) ∧ wr.cell? ⟨b, off + j * 3 + 2, none⟩ = some (.bool d) ∧ (-9223372036854775808 ≤ n ∧ n ≤ 9223372036854775807) := by
  obtain ⟨b, off, z, n, d, e1, e2, e3, e4, e5, e6⟩ := ha j hj
  have hb := h.below
  exact ⟨b, off, z, n, d, e1, (hb.cell (p := ⟨b, off + j * 3, none⟩) e2).trans e3, (hb.cell (p := ⟨b, off + j * 3 + 1, none⟩) e2).trans e4, (hb.cell (p := ⟨b, off + j * 3 + 2, none⟩) e2).trans e5, e6⟩
def RunR (rb wb lb len : Nat) (w : World) (v : Value) (wr : World) : Prop := ∃ i : Nat, v = .int .i64 (i : Int) ∧ i ≤ len ∧ RSt rb wb lb i none w wr
set_option maxRecDepth 20000 in
set_option maxHeartbeats 8000000 in
theorem run_any (a : Option Addr) (len cap : Nat) (w : World) (ha : Acts w a len) (hl : (len : Int) ≤ 9223372036854775807) : Calls Try.prog 6 #[.slice a len cap] w fun e w' => e = .returned (.bool true) ∧ Below w.heap.size w w' := by
  have hmf := makeF'
  have HK := hide known_ok
  have HA := hide ha
  have HN := hide (newrun_ok (k := 0) (B := w.heap.size) (fun _ => none) w (mem_none 0 w) (Nat.le_refl _))
  have HS : Hid (∀ rb w1, RLeft 0 w.heap.size rb ⟨[], 0, false, 0⟩ (fun _ => none) w w1 → _) := fun rb w1 h => run_start h
  have HB : Hid (∀ rb w1, RLeft 0 w.heap.size rb ⟨[], 0, false, 0⟩ (fun _ => none) w w1 → Below w.heap.size w w1) := fun rb w1 ⟨O', _, _, h3⟩ => h3.below fun _ _ => rfl
  clear ha
  by_cases hb : 600 < (len : Int)
  · go_enter Try.func6, Try.ntmps6
    go_wp2_with (first | (go_at_call 24; refine (unhide HN).mono ?_; rintro e w1 ⟨rb, rfl, hr⟩; have b1 := hide (unhide HB rb w1 hr); clear hr) | (go_at_call 10; refine (unhide HK _).mono ?_; rintro e w6 ⟨rfl, hb6⟩))
    go_ret
    exact ⟨rfl, ((unhide b1).alloc (unhide b1).size _).trans (hb6.mono (by simp; have := (unhide b1).size; omega))⟩
  · go_enter Try.func6, Try.ntmps6
    go_wp2_with (first | (go_at_call 24; refine (unhide HN).mono ?_; rintro e w1 ⟨rb, rfl, hr⟩; have b1 := hide (unhide HS rb w1 hr); clear hr))
    go_loopw [6] (fun v wr => RunR rb w1.heap.size (w1.heap.size + 1) len w v wr) (fun v _ => len - (intOf v).toNat)
    case atStart => exact ⟨0, rfl, Nat.zero_le _, unhide b1⟩
    case round =>
      obtain ⟨i, rfl, hi, hS⟩ := hrel
      by_cases hil : i < len
      · have hilI : (i : Int) < (len : Int) := by omega
        obtain ⟨b, off, z, n, d, rfl, c1, c2, c3, hn⟩ := hS.acts (unhide HA) hil
        have hX := hS.alloc z n d
        obtain ⟨x1, x2, x3⟩ := hX.xcell
        have hi600 : i ≤ 600 := by omega
        by_cases z1 : z = 1
        · subst z1
          obtain ⟨a0, N, cp, W2, hW2, k1, k2, k3, a1, n1, c1', w3, k4, k5, k6, k7, ⟨u, k8⟩, k9, hC⟩ := add_arm hX hi600 (max 0 n) ⟨by omega, by omega⟩ d
          subst hW2
          unfold fn26 at hC
          simp only [World.size_alloc] at k3 k4 hC
          have HC := hide hC
          have k2' : (0 : Int) ≤ (N : Int) := by omega
          have k5' : (N : Int) ≤ (n1 : Int) := by omega
          clear hS hX hC
          go_wp2_with (first | (go_at_call 25; refine (unhide HC).mono ?_; rintro e w5 (⟨rfl, hD⟩ | ⟨rfl, hE⟩)) | (go_at_call 27; first | (refine hD.mono ?_; rintro e w6 ⟨rfl, g1, g2, g3, g4⟩; have HL := hide (left_arm g4); clear g4) | (refine hE.mono ?_; rintro e w6 ⟨rfl, g4⟩; have HL := hide (left_arm g4); clear g4)) | (go_at_call 33; refine (unhide HL).mono ?_; rintro e w7 ⟨ta, ts, rfl, h7, cc, h34⟩) | (go_at_call 34; refine h34.mono ?_; rintro e w8 ⟨rfl, rfl⟩))
          all_goals exact ⟨⟨i + 1, by simp, by omega, h7.forget⟩, by simp [intOf]; omega⟩
        by_cases z2 : z = 2
        · subst z2
          have HC := hide (step_arm hX hi600 n hn)
          clear hS hX
          go_wp2_with (first | (go_at_call 28; refine (unhide HC).mono ?_; rintro e w4 ⟨zz, rfl, hR4, (⟨rfl, hD⟩ | ⟨m, N, rfl, m1, b0, off0, cp0, y, y1, y2, hE⟩)⟩ <;> (have t4 := hR4.xcell.2.1; clear hR4)) | (go_at_call 29; first | (refine hD.mono ?_; rintro e w5 ⟨rfl, g4⟩; have HL := hide (left_arm g4.up); clear g4) | (refine hE.mono ?_; rintro e w5 ⟨rfl, s, s1, s2, s3, gb, go, gc, g1, ⟨gu, g2⟩, g3, g4⟩; have HL := hide (left_arm g4); have hw : IntKind.i64.wrap ((s : Int) + 1) = (s : Int) + 1 := by { rw [IntKind.wrap_i64]; omega }; clear g4)) | (go_at_call 33; refine (unhide HL).mono ?_; rintro e w7 ⟨ta, ts, rfl, h7, cc, h34⟩) | (go_at_call 34; refine h34.mono ?_; rintro e w8 ⟨rfl, rfl⟩))
          all_goals exact ⟨⟨i + 1, by simp, by omega, h7.forget⟩, by simp [intOf]; omega⟩
        by_cases z3 : z = 3
        · subst z3
          have HC := hide (mark_arm hX.drew n true)
          simp only [if_true, Bool.false_eq_true, if_false] at HC
          clear hS hX
          go_wp2_with fail
          go_region_with (first | (go_at_call 30; refine (unhide HC).mono ?_; rintro e w4 ⟨r, rfl, t4', hD⟩; have t4 := t4' _ _ _ _ rfl; clear t4') | (go_at_call 31; refine hD.mono ?_; rintro e w5 ⟨rfl, g4⟩; have HL := hide (left_arm g4.up); clear g4))
          all_goals go_wp2_with (first | (go_at_call 33; refine (unhide HL).mono ?_; rintro e w7 ⟨ta, ts, rfl, h7, cc, h34⟩) | (go_at_call 34; refine h34.mono ?_; rintro e w8 ⟨rfl, rfl⟩))
          all_goals exact ⟨⟨i + 1, by simp, by omega, h7.forget⟩, by simp [intOf]; omega⟩
        · replace z1 : ¬ z = 1 := z1
          have HC := hide (mark_arm hX.drew n false)
          simp only [if_true, Bool.false_eq_true, if_false] at HC
          clear hS hX
          go_wp2_with fail
          go_region_with (first | (go_at_call 32; refine (unhide HC).mono ?_; rintro e w4 ⟨r, rfl, t4', hD⟩; have t4 := t4' _ _ _ _ rfl; clear t4') | (go_at_call 31; refine hD.mono ?_; rintro e w5 ⟨rfl, g4⟩; have HL := hide (left_arm g4.up); clear g4))
          all_goals go_wp2_with (first | (go_at_call 33; refine (unhide HL).mono ?_; rintro e w7 ⟨ta, ts, rfl, h7, cc, h34⟩) | (go_at_call 34; refine h34.mono ?_; rintro e w8 ⟨rfl, rfl⟩))
          all_goals exact ⟨⟨i + 1, by simp, by omega, h7.forget⟩, by simp [intOf]; omega⟩
      · have hilI : ¬ ((i : Int) < (len : Int)) := by omega
        have HC : Hid (Calls Try.prog 25 #[.pointer (some ⟨rb, 0, none⟩), .nilFunc] wr fun e w' => e = .returned (.int .i64 (-1)) ∧ w' = wr) := by
          obtain ⟨O, R, D, L, h1, _, _, _, h5, _⟩ := hS
          exact add_none O rb R wr h5 h1
        have hB := hS.below
        clear hS
        go_wp2_with (first | (go_at_call 25; refine (unhide HC).mono ?_; rintro e w5 ⟨rfl, rfl⟩) | (go_at_call 10; refine (unhide HK _).mono ?_; rintro e w6 ⟨rfl, hb6⟩))
        go_ret
        exact ⟨rfl, hB.trans (hb6.mono hB.size)⟩
end Go.Proofs.Ytnlfmmempomcaaa
