import Derived.Test.YtikamklgelcnhaaK10
import Derived.Test.YtikamklgelcnhaaK6
import Derived.Test.YtikamklgelcnhaaK4
import Derived.Lib.SlBytesConst
import Derived.Test.YtikamklgelcnhaaK8
import Derived.Deep.RegionHeld3
/- Decode. -/
namespace Go.Proofs.Ytikamklgelcnhaa
open Go.RowKit
set_option linter.unusedSimpArgs false
def tr0 : Tr := .mk 0 false ⟨#[]⟩ [] []
/-- What is read, and its error. -/
noncomputable def decS (B : List UInt8) : Tr × Int := match chkS (treeS B (.ok (0, 0))).2 (endS B (treeS B (.ok (0, 0))).1) with
  | .error E => (tr0, E)
  | .ok _ => ((treeS B (.ok (0, 0))).2, 0)
def DecA (T : Tr) (E : Int) (w : World) (e : Ending) (w' : World) : Prop := Below w.heap.size w w' ∧ ∃ k x a1 c1 a2 n2 c2 a3 n3 c3, e = .returned (.tuple #[.agg #[.int .i64 k, .bool x, .slice a1 T.dat.size c1, .slice a2 n2 c2, .slice a3 n3 c3], .int .i64 E]) ∧
  Lies w.heap.size w'.heap.size w' T [.int .i64 k, .bool x, .slice a1 T.dat.size c1, .slice a2 n2 c2, .slice a3 n3 c3] ∧ w'.ownsRow w.heap.size 5 1 (.slice a1 T.dat.size c1) T.dat.size (byteVals T.dat)
theorem decS_err {B : List UInt8} {E : Int} (h : chkS (treeS B (.ok (0, 0))).2 (endS B (treeS B (.ok (0, 0))).1) = .error E) : decS B = (tr0, E) := by unfold decS; rw [h]
theorem decS_ok {B : List UInt8} {q : Nat × Nat} (h : chkS (treeS B (.ok (0, 0))).2 (endS B (treeS B (.ok (0, 0))).1) = .ok q) : decS B = ((treeS B (.ok (0, 0))).2, 0) := by unfold decS; rw [h]
theorem endS_ok {B : List UInt8} {σ : RS} {q : Nat × Nat} (h : endS B σ = .ok q) : σ = .ok q := by
  match σ, h with
  | .error E, h => cases h
  | .ok (p, m), h =>
    simp only [endS] at h
    split at h
    · cases h
    · exact h
theorem chkS_ok {T : Tr} {σ : RS} {q : Nat × Nat} (h : chkS T σ = .ok q) : σ = .ok q := by
  match σ, h with
  | .error E, h => cases h
  | .ok (p, m), h =>
    simp only [chkS] at h
    split at h
    · exact h
    · cases h
theorem Bx.at5 {w : World} {b : Nat} {v0 v1 v2 v3 v4 : Value} (h : Bx w b v0 v1 v2 v3 v4) : At5 w b 0 [v0, v1, v2, v3, v4] := by
  refine ⟨_, _, h, fun j u hj => ?_⟩
  rw [Nat.zero_add]
  simpa using hj
theorem tr0_lies (l u : Nat) (w : World) : Lies l u w tr0 [.int .i64 0, .bool false, .slice none 0 0, .slice none 0 0, .slice none 0 0] :=
  .mk 0 false ⟨#[]⟩ [] [] _ _ _ [] rfl ⟨none, 0, rfl, Nat.le_refl _, fun h => absurd h (by decide)⟩ ⟨none, 0, rfl, Nat.le_refl _, fun h => absurd h (by decide)⟩ ⟨none, 0, rfl, Nat.le_refl _, fun h => absurd h (by decide)⟩ (fun i t c h => by simp at h)
theorem Sole.up {r : Nat} {a b : World} (h : Sole r a b) {base : Nat} (hb : base ≤ r) (hs : base ≤ a.heap.size) : Below base a b := h.below hb hs
/-- Decode under way. -/
structure DecW (lo hi : Nat) (b : Value) (B : List UInt8) (w W : World) (gt : Nat) (τ : RS) (T : Tr) (v0 v1 v2 v3 v4 : Value) : Prop where
  below : Below w.heap.size w W
  br : Bx W w.heap.size (.int .i64 0) (.bool false) (.slice none 0 0) (.slice none 0 0) (.slice none 0 0)
  bt : Bx W gt v0 v1 v2 v3 v4
  rst : Rst lo hi (w.heap.size + 1) b B W τ
  rd : Rdn (fun v d => Tv lo hi b v B d) W (w.heap.size + 2) gt T [v0, v1, v2, v3, v4]
  sz : gt < W.heap.size
  gt : w.heap.size + 2 ≤ gt
theorem DecW.call {lo hi : Nat} {b : Value} {B : List UInt8} {w W W1 : World} {gt : Nat} {τ τ' : RS} {T : Tr} {v0 v1 v2 v3 v4 : Value} (h : DecW lo hi b B w W gt τ T v0 v1 v2 v3 v4) (hs : Sole (w.heap.size + 1) W W1) (hR : Rst lo hi (w.heap.size + 1) b B W1 τ') : DecW lo hi b B w W1 gt τ' T v0 v1 v2 v3 v4 := by
  obtain ⟨h1, h2, h3, h4, h5, h6, h7⟩ := h
  have hz := hs.size
  exact ⟨h1.trans (hs.below (by omega) (by omega)), h2.sole hs (by omega), h3.sole hs (by omega), hR, h5.same (fun k hk1 hk2 => hs.block k (by omega) (by omega)), by omega, h7⟩
theorem DecW.lies {lo hi : Nat} {b : Value} {B : List UInt8} {w W : World} {gt : Nat} {τ : RS} {T : Tr} {v0 v1 v2 v3 v4 : Value} (h : DecW lo hi b B w W gt τ T v0 v1 v2 v3 v4) (hlo : lo ≤ hi) (hhi : hi ≤ w.heap.size) : Lies lo gt W T [v0, v1, v2, v3, v4] := by
  have := h.gt
  exact h.rd.lies (lo0 := lo) (hi0 := hi) (fun v d hD => hD W h.rst.row) (by omega) (by omega) (Nat.le_refl _)
/-- The end where all is well. -/
theorem dec_end {lo hi : Nat} {b : Value} {B : List UInt8} {w W W' : World} {gt : Nat} {τ : RS} {T : Tr} {k : Int} {x : Bool} {a1 : Option Addr} {n1 c1 : Nat} {a2 : Option Addr} {n2 c2 : Nat} {a3 : Option Addr} {n3 c3 : Nat} {e : Ending} (h : DecW lo hi b B w W gt τ T (.int .i64 k) (.bool x) (.slice a1 n1 c1) (.slice a2 n2 c2) (.slice a3 n3 c3)) (hA : OwA gt 0 (w.heap.size + 2) gt T [.int .i64 k, .bool x, .slice a1 n1 c1, .slice a2 n2 c2, .slice a3 n3 c3] W e W') :
    ∃ a c, Bx W' gt (.int .i64 k) (.bool x) (.slice a T.dat.size c) (.slice a2 n2 c2) (.slice a3 n3 c3) ∧ Bx W' w.heap.size (.int .i64 0) (.bool false) (.slice none 0 0) (.slice none 0 0) (.slice none 0 0) ∧
      DecA T 0 w (.returned (.tuple #[.agg #[.int .i64 k, .bool x, .slice a T.dat.size c, .slice a2 n2 c2, .slice a3 n3 c3], .int .i64 0])) (set5 W' w.heap.size (.int .i64 k) (.bool x) (.slice a T.dat.size c) (.slice a2 n2 c2) (.slice a3 n3 c3)) := by
  obtain ⟨h1, h2, h3, h4, h5, h6, h7⟩ := h
  obtain ⟨_, hF, a, c, hrow, hblk, hL⟩ := hA
  have hz := hF.size
  have hz0 := h1.size
  have hbel : Below w.heap.size w W' := ⟨hF.os.trans h1.os, hF.tape.trans h1.tape, hF.output.trans h1.output, by omega, fun k hk => by rw [hF.block k (by omega) (by omega) (by omega)]; exact h1.block k hk⟩
  refine ⟨a, c, ?_, ?_, below_set5 hbel (Nat.le_refl _) _ _ _ _ _, k, x, a, c, a2, n2, c2, a3, n3, c3, rfl, ?_, ?_⟩
  · have := h3.set2 (.slice a T.dat.size c)
    unfold Bx at this ⊢
    rw [hblk]
    exact this
  · exact h2.of (hF.block _ (by omega) (by omega) (by omega))
  · refine Lyp.lies (S := fun k => (w.heap.size + 2 ≤ k ∧ k < gt) ∨ (W.heap.size ≤ k ∧ k < W'.heap.size)) (hL.same (fun k hk => set5_other _ _ _ _ _ _ _ _ (by omega))) (fun k hk => ?_)
    simp
    omega
  · exact owns_same hrow (fun g hg => set5_other _ _ _ _ _ _ _ _ (by have := (owns_lt hrow g hg).1; omega)) (fun g _ h => by omega)
set_option maxRecDepth 20000 in
set_option maxHeartbeats 1000000 in
theorem decode_any (lo hi : Nat) (b : Value) (B : List UInt8) (w : World) (hr : Row lo hi w b B.length (bv B)) (hlo : lo ≤ hi) (hhi : hi ≤ w.heap.size) (hB : B.length ≤ 4000000) (hW : ∀ p m, (treeS B (.ok (0, 0))).1 = .ok (p, m) → wt (treeS B (.ok (0, 0))).2 ≤ 100000) :
    Calls Try.prog 19 #[b] w (DecA (decS B).1 (decS B).2 w) := by
  obtain ⟨a, c, rfl, hc⟩ := hr.slice
  obtain ⟨Q, hQ⟩ : ∃ Q, Q = DecA (decS B).1 (decS B).2 w := ⟨_, rfl⟩
  rw [← hQ]
  have HQ := hide hQ
  obtain ⟨W0, hW0⟩ : ∃ W0, W0 = (w.alloc (.cells #[.int .i64 0, .bool false, .slice none 0 0, .slice none 0 0, .slice none 0 0] 26)).alloc (.cells #[.slice a B.length c, .int .i64 0, .int .i64 0, .int .i64 0] 69) := ⟨_, rfl⟩
  have hb0 : Below w.heap.size w W0 := by rw [hW0]; exact ((Below.refl _ _).alloc (Nat.le_refl _) _).alloc (by simp) _
  have hs0 : W0.heap.size = w.heap.size + 2 := by rw [hW0]; simp
  have hx0 : Bx W0 w.heap.size (.int .i64 0) (.bool false) (.slice none 0 0) (.slice none 0 0) (.slice none 0 0) := by
    rw [hW0]; exact (bx_new _ _ _ _ _ _).kept ((Below.refl (w.heap.size + 1) _).alloc (by simp) _) (by omega)
  have hR0 : Rst lo hi (w.heap.size + 1) (.slice a B.length c) B W0 (.ok (0, 0)) := by
    refine ⟨⟨?_, hr.below hb0 hhi, Nat.zero_le _, by omega, .inr (by omega), by omega⟩, by omega⟩
    rw [hW0]
    have := rx_new (w.alloc (.cells #[.int .i64 0, .bool false, .slice none 0 0, .slice none 0 0, .slice none 0 0] 26)) (.slice a B.length c) 0 0 0
    simpa using this
  have H1 := hide (rtree_any lo hi (w.heap.size + 1) (.slice a B.length c) B hB W0 (.ok (0, 0)) hR0)
  have HX0 := hide (And.intro hb0 hx0)
  have HS0 := hide hs0
  have HW0 := hide hW0
  have HR := hide hr
  have HDE := hide (And.intro (@decS_err B) (And.intro (@decS_ok B) hW))
  clear hr hQ hb0 hx0 hs0 hR0 hW0 hW
  generalize treeS B (.ok (0, 0)) = R at *
  obtain ⟨τ, T⟩ := R
  go_enter Try.func19, Try.ntmps19
  go_wp2_with fail
  rw [← unhide HW0]
  refine (unhide H1).mono ?_
  rintro x w1 ⟨cs, rfl, hs1, hR1, hT1⟩
  obtain ⟨k', y', b1, n1, d1, b2, n2, d2, b3, n3, d3, rfl⟩ := hT1.form
  have hz1 := hs1.size
  rw [unhide HS0] at hz1 hT1
  obtain ⟨W2, hW2⟩ : ∃ W2, W2 = w1.alloc (.cells #[.int .i64 k', .bool y', .slice b1 n1 d1, .slice b2 n2 d2, .slice b3 n3 d3] 26) := ⟨_, rfl⟩
  have hbw : Below w1.heap.size w1 W2 := by rw [hW2]; exact (Below.refl _ _).alloc (Nat.le_refl _) _
  have hDW : DecW lo hi (.slice a B.length c) B w W2 w1.heap.size τ T (.int .i64 k') (.bool y') (.slice b1 n1 d1) (.slice b2 n2 d2) (.slice b3 n3 d3) := by
    refine ⟨((unhide HX0).1.trans (hs1.below (by omega) (by rw [unhide HS0]; omega))).trans (hbw.mono (by omega)), ((unhide HX0).2.sole hs1 (by omega)).kept hbw (by omega), ?_, hR1.kept hbw hR1.lt hR1.hi, hT1.same (fun k _ hk => hbw.block k hk), by rw [hW2]; simp, by omega⟩
    rw [hW2]; exact bx_new _ _ _ _ _ _
  have H2 := hide (end_any lo hi _ _ B W2 τ hDW.rst)
  have HDW := hide hDW
  have HW2 := hide hW2
  clear hs1 hR1 hT1 hW2 hbw hDW H1 HX0
  go_wp2_with fail
  rw [← unhide HW2]
  refine (unhide H2).mono ?_
  rintro x w3 ⟨rfl, hs3, hR3⟩
  have HD3 := hide ((unhide HDW).call hs3 hR3)
  have H3 := hide (rcheck_any lo hi _ _ B w3 (endS B τ) T lo w1.heap.size _ hR3 ((unhide HD3).lies hlo hhi) (fun p m he => (unhide HDE).2.2 p m (endS_ok he)) (by have := (unhide HD3).sz; omega))
  obtain ⟨y0, y1, y2, y3, y4⟩ := (unhide HD3).bt.cells
  clear hs3 hR3 HDW HW2 H2
  go_wp2_with fail
  refine (unhide H3).mono ?_
  rintro x w4 ⟨rfl, hs4, hR4⟩
  have HD4 := hide ((unhide HD3).call hs4 hR4)
  clear hs4 H3 HD3 y0 y1 y2 y3 y4
  obtain ⟨y0, y1, y2, y3, y4⟩ := (unhide HD4).bt.cells
  obtain ⟨x0, x1, x2, x3, x4⟩ := (unhide HD4).br.cells
  have g0 := (unhide HD4).br.fr 0
  have g1 := (unhide HD4).br.fr 1
  have g2 := (unhide HD4).br.fr 2
  have g3 := (unhide HD4).br.fr 3
  have g4 := (unhide HD4).br.fr 4
  obtain ⟨p, m, e, hRs, hcase⟩ := hR4.rs
  obtain ⟨h0, h1, h2, h3⟩ := hRs.rx.cells
  clear hRs hR4
  rcases hcase with ⟨kk, rfl, rfl, hk, hσ⟩ | ⟨he, hσ⟩
  · have e1 := (unhide HDE).2.1 hσ
    have hwt := (unhide HDE).2.2 _ _ (endS_ok (chkS_ok hσ))
    have HO := hide (own_any (fun v d => Tv lo hi (.slice a B.length c) v B d) lo hi T w1.heap.size 0 (w.heap.size + 2) w1.heap.size _ w4 (fun W v d hW hT => hT W ((unhide HD4).rst.row.same (fun k _ hk => hW k hk))) (unhide HD4).rd (unhide HD4).bt.at5 (.inr (Nat.le_refl _)) (by omega) (by omega) (by have := (unhide HD4).sz; omega) hwt)
    have HE1 := hide e1
    clear e1 hwt hσ
    go_wp2_with fail
    refine (unhide HO).mono ?_
    rintro x w5 hA
    obtain ⟨a5, c5, hx5, hr5, hZ⟩ := dec_end (unhide HD4) hA
    obtain rfl := hA.1
    clear hA HO x0 x1 x2 x3 x4 y0 y1 y2 y3 y4 g0 g1 g2 g3 g4 HD4
    obtain ⟨y0, y1, y2, y3, y4⟩ := hx5.cells
    obtain ⟨x0, x1, x2, x3, x4⟩ := hr5.cells
    have g0 := hr5.fr 0
    have g1 := hr5.fr 1
    have g2 := hr5.fr 2
    have g3 := hr5.fr 3
    have g4 := hr5.fr 4
    have HZ := hide hZ
    clear hZ hx5 hr5
    go_wp2_with fail
    refine bodyPost_ret (v := .tuple #[.agg #[.int .i64 k', .bool y', .slice a5 T.dat.size c5, .slice b2 n2 d2, .slice b3 n3 d3], .int .i64 0]) (by simp [results, Try.results19, go_sem, x0, x1, x2, x3, x4]) rfl ?_
    rw [unhide HQ, unhide HE1]
    exact unhide HZ
  · have e1 := (unhide HDE).1 hσ
    have hbe : (e == 0) = false := by rw [beq_eq_false_iff_ne]; exact he
    have HE1 := hide e1
    clear e1 hσ
    go_wp2_with fail
    go_region
    all_goals
      have HZ : Hid (DecA tr0 e w (.returned (.tuple #[.agg #[.int .i64 0, .bool false, .slice none 0 0, .slice none 0 0, .slice none 0 0], .int .i64 e])) (set5 w4 w.heap.size (.int .i64 0) (.bool false) (.slice none 0 0) (.slice none 0 0) (.slice none 0 0)).drew) := by
        have hb := below_set5 (unhide HD4).below (Nat.le_refl _) (.int .i64 0) (.bool false) (.slice none 0 0) (.slice none 0 0) (.slice none 0 0)
        exact ⟨⟨hb.os, hb.tape, hb.output, hb.size, hb.block⟩, 0, false, none, 0, none, 0, 0, none, 0, 0, rfl, tr0_lies _ _ _, World.ownsRow_nil _ _ _ _⟩
      clear HD4
      go_wp2_with fail
      refine bodyPost_ret (v := .tuple #[.agg #[.int .i64 0, .bool false, .slice none 0 0, .slice none 0 0, .slice none 0 0], .int .i64 e]) (by simp [results, Try.results19, go_sem, x0, x1, x2, x3, x4]) rfl ?_
      rw [unhide HQ, unhide HE1]
      exact unhide HZ
end Go.Proofs.Ytikamklgelcnhaa
/- Split. -/
namespace Go.Proofs.Ytikamklgelcnhaa
open Go.RowKit
set_option linter.unusedSimpArgs false
/-- How many bytes the first archive has, and the error. -/
noncomputable def splS (B : List UInt8) : Nat × Int := match chkS (treeS B (.ok (0, 0))).2 (treeS B (.ok (0, 0))).1 with
  | .error E => (0, E)
  | .ok (p, _) => (p, 0)
theorem splS_err {B : List UInt8} {E : Int} (h : chkS (treeS B (.ok (0, 0))).2 (treeS B (.ok (0, 0))).1 = .error E) : splS B = (0, E) := by unfold splS; rw [h]
theorem splS_ok {B : List UInt8} {p m : Nat} (h : chkS (treeS B (.ok (0, 0))).2 (treeS B (.ok (0, 0))).1 = .ok (p, m)) : splS B = (p, 0) := by unfold splS; rw [h]
set_option maxRecDepth 20000 in
set_option maxHeartbeats 1000000 in
theorem split_any (lo hi : Nat) (b : Value) (B : List UInt8) (w : World) (hr : Row lo hi w b B.length (bv B)) (hlo : lo ≤ hi) (hhi : hi ≤ w.heap.size) (hB : B.length ≤ 4000000) (hW : ∀ p m, (treeS B (.ok (0, 0))).1 = .ok (p, m) → wt (treeS B (.ok (0, 0))).2 ≤ 100000) :
    Calls Try.prog 23 #[b] w fun e w' => e = .returned (.tuple #[.int .i64 ((splS B).1 : Nat), .int .i64 (splS B).2]) ∧ Below w.heap.size w w' := by
  obtain ⟨a, c, rfl, hc⟩ := hr.slice
  obtain ⟨W0, hW0⟩ : ∃ W0, W0 = w.alloc (.cells #[.slice a B.length c, .int .i64 0, .int .i64 0, .int .i64 0] 69) := ⟨_, rfl⟩
  have hb0 : Below w.heap.size w W0 := by rw [hW0]; exact (Below.refl _ _).alloc (Nat.le_refl _) _
  have hs0 : W0.heap.size = w.heap.size + 1 := by rw [hW0]; simp
  have hR0 : Rst lo hi w.heap.size (.slice a B.length c) B W0 (.ok (0, 0)) := by
    refine ⟨⟨?_, hr.below hb0 hhi, Nat.zero_le _, by omega, .inr (by omega), by omega⟩, by omega⟩
    rw [hW0]
    exact rx_new w (.slice a B.length c) 0 0 0
  have H1 := hide (rtree_any lo hi w.heap.size (.slice a B.length c) B hB W0 (.ok (0, 0)) hR0)
  have HB0 := hide hb0
  have HS0 := hide hs0
  have HW0 := hide hW0
  have HDE := hide (And.intro (@splS_err B) (And.intro (@splS_ok B) hW))
  clear hr hb0 hs0 hR0 hW0 hW
  generalize treeS B (.ok (0, 0)) = R at *
  obtain ⟨τ, T⟩ := R
  go_enter Try.func23, Try.ntmps23
  go_wp2_with fail
  rw [← unhide HW0]
  refine (unhide H1).mono ?_
  rintro x w1 ⟨cs, rfl, hs1, hR1, hT1⟩
  obtain ⟨k', y', b1, n1, d1, b2, n2, d2, b3, n3, d3, rfl⟩ := hT1.form
  have hz1 := hs1.size
  rw [unhide HS0] at hz1 hT1
  have hL1 : Lies lo w1.heap.size w1 T _ := hT1.lies (lo0 := lo) (hi0 := hi) (fun v d hD => hD w1 hR1.row) (by omega) (by omega) (Nat.le_refl _)
  have H3 := hide (rcheck_any lo hi _ _ B w1 τ T lo w1.heap.size _ hR1 hL1 (fun p m he => (unhide HDE).2.2 p m he) (Nat.le_refl _))
  have HB1 := hide ((unhide HB0).trans (hs1.below (Nat.le_refl _) (by rw [unhide HS0]; omega)))
  clear hs1 hR1 hT1 hL1 H1 HB0
  go_wp2_with fail
  refine (unhide H3).mono ?_
  rintro x w4 ⟨rfl, hs4, hR4⟩
  have HB4 := hide ((unhide HB1).trans (hs4.below (Nat.le_refl _) (by omega)))
  clear hs4 H3 HB1
  obtain ⟨p, m, e, hRs, hcase⟩ := hR4.rs
  obtain ⟨h0, h1, h2, h3⟩ := hRs.rx.cells
  clear hRs hR4
  rcases hcase with ⟨kk, rfl, rfl, hk, hσ⟩ | ⟨he, hσ⟩
  · have e1 := (unhide HDE).2.1 hσ
    have HE1 := hide e1
    clear e1 hσ
    go_wp2_with fail
    refine bodyPost_ret (v := .tuple #[.int .i64 (p : Int), .int .i64 0]) (by simp [results, Try.results23, go_sem]) rfl ?_
    rw [unhide HE1]
    exact ⟨rfl, unhide HB4⟩
  · have e1 := (unhide HDE).1 hσ
    have hbe : (e == 0) = false := by rw [beq_eq_false_iff_ne]; exact he
    have HE1 := hide e1
    clear e1 hσ
    go_wp2_with fail
    go_region
    all_goals
      go_wp2_with fail
      refine bodyPost_ret (v := .tuple #[.int .i64 0, .int .i64 e]) (by simp [results, Try.results23, go_sem]) rfl ?_
      rw [unhide HE1]
      have hb := unhide HB4
      exact ⟨rfl, hb.os, hb.tape, hb.output, hb.size, hb.block⟩
end Go.Proofs.Ytikamklgelcnhaa
/- The law's own helpers: heavy, same, known. -/
namespace Go.Proofs.Ytikamklgelcnhaa
open Go.RowKit
set_option linter.unusedSimpArgs false
set_option maxRecDepth 20000 in
set_option maxHeartbeats 1000000 in
theorem heavy_any (T : Tr) (lo hi : Nat) (cs : List Value) (w : World) (hL : Lies lo hi w T cs) (hF : Fit T) (hhi : hi ≤ w.heap.size) :
    Calls Try.prog 9 #[.agg cs.toArray] w fun e w' => Below w.heap.size w w' ∧ (e = .returned (.bool true) ∨ (e = .returned (.bool false) ∧ wt T ≤ 3000)) := by
  obtain ⟨kt, xt, at0, nt, ct, bt, mt, dt, et, pt, qt, rfl⟩ := hL.form
  obtain ⟨wA, hwA⟩ : ∃ wA, wA = (w.alloc (.cells #[.int .i64 kt, .bool xt, .slice at0 nt ct, .slice bt mt dt, .slice et pt qt] 26)).alloc (.cells #[.int .i64 0] 3) := ⟨_, rfl⟩
  have hbA : Below w.heap.size w wA := by rw [hwA]; exact ((Below.refl _ _).alloc (Nat.le_refl _) _).alloc (by simp) _
  have hsA : wA.heap.size = w.heap.size + 1 + 1 := by rw [hwA]; simp
  have hC : Ctr wA (w.heap.size + 1) (.int .i64 ((0 : Nat) : Int)) := by rw [hwA]; exact ⟨by simp [go_sem], by simp [go_sem]⟩
  have HG := hide (great_any T lo hi _ wA (w.heap.size + 1) 0 (hL.kept hbA hhi) hF hC (by omega) (by omega))
  have HB := hide hbA
  have HwA := hide hwA
  clear hL hF hC hbA hwA
  go_enter Try.func9, Try.ntmps9
  go_wp2_with fail
  rw [← unhide HwA]
  refine (unhide HG).mono ?_
  rintro e w1 ⟨hs, hans⟩
  have HB1 := hide ((unhide HB).trans (hs.below (show w.heap.size ≤ w.heap.size + 1 by omega) (by omega)))
  rcases hans with rfl | ⟨rfl, h1, _⟩
  · go_wp2_with fail
    go_ret
    exact ⟨unhide HB1, .inl rfl⟩
  · go_wp2_with fail
    go_ret
    exact ⟨unhide HB1, .inr ⟨rfl, by omega⟩⟩
theorem row_byte {lo hi : Nat} {w : World} {a : Option Addr} {n c : Nat} {xs : List UInt8} (h : Row lo hi w (.slice a n c) n (bv xs)) (hn : xs.length = n) (i : Nat) (hi' : i < n) : ∃ g o, a = some ⟨g, o, none⟩ ∧ w.cell? ⟨g, o + i, none⟩ = some (.int .u8 ((xs.getD i 0).toNat : Int)) := by
  obtain ⟨g, o, rfl, _, _, hcell⟩ := h.at (by omega)
  exact ⟨g, o, rfl, hcell i _ (by unfold bv; rw [List.getElem?_map, List.getElem?_eq_getElem (show i < xs.length by omega), List.getD_eq_getElem?_getD, List.getElem?_eq_getElem (show i < xs.length by omega)]; rfl)⟩
theorem bytes_eq_of {xs ys : List UInt8} (hl : xs.length = ys.length) (h : ∀ j, j < xs.length → xs.getD j 0 = ys.getD j 0) : xs = ys := by
  apply List.ext_getElem hl
  intro i h1 h2
  have := h i h1
  rw [List.getD_eq_getElem?_getD, List.getD_eq_getElem?_getD, List.getElem?_eq_getElem h1, List.getElem?_eq_getElem h2] at this
  exact this
set_option maxRecDepth 20000 in
set_option maxHeartbeats 1000000 in
theorem same_any (lo hi lo' hi' : Nat) (a b : Option Addr) (n m c d : Nat) (xs ys : List UInt8) (w : World) (hx : Row lo hi w (.slice a n c) n (bv xs)) (hy : Row lo' hi' w (.slice b m d) m (bv ys)) (hn : xs.length = n) (hm : ys.length = m) (hmax : n ≤ 100000000) (hmax2 : m ≤ 100000000) :
    Calls Try.prog 15 #[.slice a n c, .slice b m d] w fun e w' => (∃ q, w' = w.drewN q) ∧ e = .returned (.bool (decide (xs = ys))) := by
  by_cases hnm : n = m
  case neg =>
    have hD : decide (xs = ys) = false := decide_eq_false (fun e => hnm (by rw [← hn, ← hm, e]))
    have e1 : ((n : Int) == (m : Int)) = false := by rw [beq_eq_false_iff_ne]; omega
    rw [hD]
    clear hx hy hnm hn hm
    go_enter Try.func15, Try.ntmps15
    go_wp2_with fail
    go_ret
    exact ⟨⟨0, rfl⟩, rfl⟩
  case pos =>
  subst hnm
  have HX : Hid (∀ i, i < n → ∃ g o, a = some ⟨g, o, none⟩ ∧ w.cell? ⟨g, o + i, none⟩ = some (.int .u8 ((xs.getD i 0).toNat : Int))) := fun i hi => row_byte hx hn i hi
  have HY : Hid (∀ i, i < n → ∃ g o, b = some ⟨g, o, none⟩ ∧ w.cell? ⟨g, o + i, none⟩ = some (.int .u8 ((ys.getD i 0).toNat : Int))) := fun i hi => row_byte hy hm i hi
  have HN := hide (And.intro hn hm)
  clear hx hy hn hm
  go_enter Try.func15, Try.ntmps15
  go_wp2_with fail
  go_loopw [5] (fun vi wr => ∃ i : Nat, i ≤ n ∧ vi = .int .i64 (i : Int) ∧ (∃ q, wr = w.drewN q) ∧ Hid (∀ j, j < i → xs.getD j 0 = ys.getD j 0)) (fun vi _ => n - (intOf vi).toNat)
  case atStart => exact ⟨0, by omega, rfl, ⟨0, rfl⟩, fun j h => by omega⟩
  case round =>
    obtain ⟨i, hin, rfl, ⟨q, rfl⟩, hlo⟩ := hrel
    by_cases hlt : i < n
    · obtain ⟨g, o, rfl, hcx⟩ := unhide HX i hlt
      obtain ⟨g', o', rfl, hcy⟩ := unhide HY i hlt
      by_cases he : xs.getD i 0 = ys.getD i 0
      · rw [← he] at hcy
        have hlo' : Hid (∀ j, j < i + 1 → xs.getD j 0 = ys.getD j 0) := fun j hj => by
          rcases Nat.lt_or_ge j i with h | h
          · exact unhide hlo j h
          · obtain rfl : j = i := by omega
            exact he
        clear he hlo
        generalize (xs.getD i 0).toNat = z at hcx hcy
        go_wp2_with fail
        go_quiet (fail)
        go_wp2_with fail
        go_roundw
        case rel => exact ⟨i + 1, by omega, by go_num, ⟨_, rfl⟩, hlo'⟩
        case measure => simp [intOf]; try omega
      · have hne : (((xs.getD i 0).toNat : Int) == ((ys.getD i 0).toNat : Int)) = false := by
          rw [beq_eq_false_iff_ne]
          intro e
          exact he (UInt8.toNat_inj.1 (by omega))
        have hD : decide (xs = ys) = false := decide_eq_false (fun e => he (by rw [e]))
        have HD := hide hD
        clear he hD hlo
        generalize (xs.getD i 0).toNat = z at hcx hne
        generalize (ys.getD i 0).toNat = z' at hcy hne
        go_wp2_with fail
        go_quiet (fail)
        go_wp2_with fail
        go_ret
        exact ⟨⟨_, World.drewN_drewN _ _ _⟩, by rw [unhide HD]; rfl⟩
    · obtain rfl : i = n := by omega
      have hD : decide (xs = ys) = true := decide_eq_true (bytes_eq_of (by rw [(unhide HN).1, (unhide HN).2]) (fun j hj => unhide hlo j (by rw [(unhide HN).1] at hj; exact hj)))
      have HD := hide hD
      clear hD
      go_wp2_with fail
      go_ret
      exact ⟨⟨_, rfl⟩, by rw [unhide HD]; rfl⟩
def knownT : Tr := .mk 1 false ⟨#[97]⟩ [] []
theorem chk_known : (chk knownT 1 0).1 = 0 := by
  unfold knownT
  have h : locErr 1 false (⟨#[97]⟩ : ByteArray).size [] ([] : List Tr).length = 0 := (loc_file (x := false) (d := 1) (nk := 0) (ns := []) rfl rfl).trans rfl
  rw [chk, if_neg (by omega), if_pos h, chks]
theorem enc_known : (encS knownT).length = 120 := by
  unfold encS
  rw [if_pos chk_known]
  unfold narB knownT
  rw [nodeB, if_pos rfl]
  decide
set_option maxRecDepth 20000 in
set_option maxHeartbeats 1000000 in
theorem known_any (w : World) : Calls Try.prog 17 #[] w fun e w' => e = .returned (.bool true) ∧ Below w.heap.size w w' := by
  obtain ⟨wA, hwA⟩ : ∃ wA, wA = w.alloc (.cells #[.int .u8 97] 5 (1, 2)) := ⟨_, rfl⟩
  have hb : Below w.heap.size w wA := by rw [hwA]; exact (Below.refl _ _).alloc (Nat.le_refl _) _
  have hsA : wA.heap.size = w.heap.size + 1 := by rw [hwA]; simp
  have hc : wA.heap[w.heap.size]? = some (.cells #[.int .u8 97] 5 (1, 2)) := by
    rw [hwA]
    show (w.heap.push _)[w.heap.size]? = _
    rw [Array.getElem?_push, if_pos rfl]
  have h0 : ∀ n, n = 0 → ∀ xs, Row w.heap.size (w.heap.size + 1) wA (.slice none 0 0) n xs := fun n hn xs => by subst hn; exact ⟨none, 0, rfl, Nat.le_refl _, fun h => absurd h (by simp)⟩
  have hL : Lies w.heap.size (w.heap.size + 1) wA knownT [.int .i64 1, .bool false, .slice (some ⟨w.heap.size, 0, none⟩) 1 1, .slice none 0 0, .slice none 0 0] := by
    refine .mk 1 false ⟨#[97]⟩ [] [] _ _ _ [] rfl ⟨_, 1, rfl, Nat.le_refl _, fun _ => ⟨w.heap.size, 0, rfl, Nat.le_refl _, by omega, fun j u hj => ?_⟩⟩ (h0 _ rfl _) (h0 _ rfl _) (fun i t c h1 _ => by simp at h1)
    rw [cell_of_row _ _ _ _ _ _ hc, Nat.zero_add]
    rw [← Array.getElem?_toList]
    exact hj
  have hcv := Lib.run_convert_bytes_const w 22 5 #[.int .u8 97] 1 1 Try.underlying22 Try.underlying5
  have HwA := hide hwA
  have HE := hide (encode_any knownT _ _ _ _ hL (by unfold knownT; rw [wt]; simp [tenths, wts, ByteArray.size]) (by omega))
  have HB := hide hb
  clear hb h0 hL hc hwA
  go_enter Try.func17, Try.ntmps17
  go_wp2_with fail
  clear hcv
  rw [← unhide HwA]
  refine (unhide HE).mono ?_
  rintro e w2 ⟨hb2, a2, c2, he, hr2⟩
  rw [enc_known, chk_known] at he
  subst he
  have HB2 := hide ((unhide HB).trans (hb2.mono (by omega)))
  clear hb2 hr2 HE
  go_wp2_with fail
  go_ret
  exact ⟨rfl, unhide HB2⟩
end Go.Proofs.Ytikamklgelcnhaa
/- Unlike trees have unlike bytes: the plain mathematics. No Go text is named here. -/
namespace Go.Proofs.Ytikamklgelcnhaa
open Go.RowKit
theorem wd (s : List UInt8) (h : s.length < 100) : s.length < 2 ^ 64 := by omega
theorem tenths_memX {ns : List ByteArray} {s : ByteArray} (h : s ∈ ns) : s.size / 10 ≤ tenths ns := by
  induction ns with
  | nil => simp at h
  | cons a r ih =>
    rw [tenths]
    rcases List.mem_cons.1 h with rfl | h
    · omega
    · have := ih h; omega
theorem name_sz {k : Int} {x : Bool} {d : ByteArray} {ns : List ByteArray} {ks : List Tr} (h : wt (.mk k x d ns ks) ≤ 100000) : d.size < 2 ^ 64 ∧ ∀ s ∈ ns, s.size < 2 ^ 64 := by
  rw [wt] at h
  exact ⟨by omega, fun s hs => by have := tenths_memX hs; omega⟩
theorem sB_inj {a b : ByteArray} (h : sB a = sB b) : a = b := ByteArray.ext (Array.ext' h)
theorem ents_inj (Q : Tr → Prop) (ns : List ByteArray) : ∀ (ks : List Tr) (ns' : List ByteArray) (ks' : List Tr) (r q : List UInt8),
    ns.length = ks.length → ns'.length = ks'.length → (∀ s ∈ ns, s.size < 2 ^ 64) → (∀ s ∈ ns', s.size < 2 ^ 64) → (∀ t ∈ ks, ∀ u, Q u → ∀ r q, nodeB t ++ r = nodeB u ++ q → t = u ∧ r = q) → (∀ t ∈ ks', Q t) → entsB ns ks ++ (tx wClose ++ r) = entsB ns' ks' ++ (tx wClose ++ q) → ns = ns' ∧ ks = ks' ∧ r = q := by
  induction ns with
  | nil =>
    intro ks ns' ks' r q h1 h2 _ _ _ _ h
    have : ks = [] := List.eq_nil_of_length_eq_zero (by simpa using h1.symm)
    subst this
    rw [entsB_nil, List.nil_append] at h
    cases ns' with
    | nil =>
      have : ks' = [] := List.eq_nil_of_length_eq_zero (by simpa using h2.symm)
      subst this
      rw [entsB_nil, List.nil_append] at h
      exact ⟨rfl, rfl, List.append_cancel_left h⟩
    | cons n ns' =>
      cases ks' with
      | nil => simp at h2
      | cons t ks' =>
        rw [entsB] at h
        simp only [txs, List.append_assoc] at h
        have := (tx_inj (wd _ (by decide)) (wd _ (by decide)) h).1
        exact absurd this (by decide)
  | cons n ns ih =>
    intro ks ns' ks' r q h1 h2 s1 s2 p1 p2 h
    cases ks with
    | nil => simp at h1
    | cons t ks =>
      cases ns' with
      | nil =>
        have : ks' = [] := List.eq_nil_of_length_eq_zero (by simpa using h2.symm)
        subst this
        rw [entsB_nil, List.nil_append, entsB] at h
        simp only [txs, List.append_assoc] at h
        have := (tx_inj (wd _ (by decide)) (wd _ (by decide)) h).1
        exact absurd this (by decide)
      | cons n' ns' =>
        cases ks' with
        | nil => simp at h2
        | cons t' ks' =>
          rw [entsB, entsB] at h
          simp only [txs, List.append_assoc, List.nil_append] at h
          have h := (tx_inj (wd _ (by decide)) (wd _ (by decide)) h).2
          have h := (tx_inj (wd _ (by decide)) (wd _ (by decide)) h).2
          have h := (tx_inj (wd _ (by decide)) (wd _ (by decide)) h).2
          obtain ⟨hn, h⟩ := tx_inj (s := sB n) (t := sB n') (s1 n (by simp)) (s2 n' (by simp)) h
          have h := (tx_inj (wd _ (by decide)) (wd _ (by decide)) h).2
          obtain ⟨ht, h⟩ := p1 t (by simp) t' (p2 t' (by simp)) _ _ h
          have h := (tx_inj (wd _ (by decide)) (wd _ (by decide)) h).2
          obtain ⟨e1, e2, e3⟩ := ih ks ns' ks' r q (by simpa using h1) (by simpa using h2) (fun s hs => s1 s (by simp [hs])) (fun s hs => s2 s (by simp [hs])) (fun t ht => p1 t (by simp [ht])) (fun t ht => p2 t (by simp [ht])) h
          exact ⟨by rw [sB_inj hn, e1], by rw [ht, e2], e3⟩
/-- A tree of at most so many levels that is one, and not great. -/
def Ok1 (T : Tr) : Prop := (∃ dp n, (chk T dp n).1 = 0) ∧ wt T ≤ 100000
theorem node_inj (T : Tr) : ∀ (U : Tr) (r q : List UInt8), Ok1 T → Ok1 U → nodeB T ++ r = nodeB U ++ q → T = U ∧ r = q := by
  induction T using Tr.ind with
  | h k x d ns ks ih =>
  intro U r q hT hU h
  cases U with
  | mk k' x' d' ns' ks' =>
  obtain ⟨⟨dp, n, hc⟩, hw⟩ := hT
  obtain ⟨⟨dp', n', hc'⟩, hw'⟩ := hU
  obtain ⟨hl, _, hk⟩ := chk_kids hc
  obtain ⟨hl', _, hk'⟩ := chk_kids hc'
  obtain ⟨z1, z2⟩ := name_sz hw
  obtain ⟨z1', z2'⟩ := name_sz hw'
  have hSm := small_of hw
  have hSm' := small_of hw'
  rw [nodeB, nodeB] at h
  simp only [txs, List.append_assoc, List.nil_append] at h
  have h := (tx_inj (wd _ (by decide)) (wd _ (by decide)) h).2
  have h := (tx_inj (wd _ (by decide)) (wd _ (by decide)) h).2
  have nil0 : ∀ {l : List ByteArray}, l.length = 0 → l = [] := fun h => List.eq_nil_of_length_eq_zero h
  have nil1 : ∀ {l : List Tr}, l.length = 0 → l = [] := fun h => List.eq_nil_of_length_eq_zero h
  rcases loc0 hl with ⟨rfl, a1, a2⟩ | ⟨rfl, a0, a1, a2⟩ | ⟨rfl, a0, a1, a2, a3⟩ <;> rcases loc0 hl' with ⟨rfl, b1, b2⟩ | ⟨rfl, b0, b1, b2⟩ | ⟨rfl, b0, b1, b2, b3⟩
  · obtain rfl := nil0 a1
    obtain rfl := nil1 a2
    obtain rfl := nil0 b1
    obtain rfl := nil1 b2
    rw [if_pos (show (1 : Int) = 1 from rfl), if_pos (show (1 : Int) = 1 from rfl)] at h
    simp only [List.append_assoc] at h
    have h := (tx_inj (wd _ (by decide)) (wd _ (by decide)) h).2
    cases x <;> cases x'
    · simp only [Bool.false_eq_true, if_false, List.nil_append] at h
      have h := (tx_inj (wd _ (by decide)) (wd _ (by decide)) h).2
      obtain ⟨hd, h⟩ := tx_inj (s := sB d) (t := sB d') z1 z1' h
      have h := (tx_inj (wd _ (by decide)) (wd _ (by decide)) h).2
      rw [sB_inj hd]
      exact ⟨rfl, h⟩
    · simp only [Bool.false_eq_true, if_false, if_true, List.nil_append, List.append_assoc] at h
      exact absurd (tx_inj (wd _ (by decide)) (wd _ (by decide)) h).1 (by decide)
    · simp only [Bool.false_eq_true, if_false, if_true, List.nil_append, List.append_assoc] at h
      exact absurd (tx_inj (wd _ (by decide)) (wd _ (by decide)) h).1 (by decide)
    · simp only [if_true, List.append_assoc] at h
      have h := (tx_inj (wd _ (by decide)) (wd _ (by decide)) h).2
      have h := (tx_inj (wd _ (by decide)) (wd _ (by decide)) h).2
      have h := (tx_inj (wd _ (by decide)) (wd _ (by decide)) h).2
      obtain ⟨hd, h⟩ := tx_inj (s := sB d) (t := sB d') z1 z1' h
      have h := (tx_inj (wd _ (by decide)) (wd _ (by decide)) h).2
      rw [sB_inj hd]
      exact ⟨rfl, h⟩
  · rw [if_pos (show (1 : Int) = 1 from rfl), if_neg (show ¬ (3 : Int) = 1 by decide), if_pos (show (3 : Int) = 3 from rfl)] at h
    simp only [List.append_assoc] at h
    exact absurd (tx_inj (wd _ (by decide)) (wd _ (by decide)) h).1 (by decide)
  · rw [if_pos (show (1 : Int) = 1 from rfl), if_neg (show ¬ (2 : Int) = 1 by decide), if_neg (show ¬ (2 : Int) = 3 by decide), if_pos (show (2 : Int) = 2 from rfl)] at h
    simp only [List.append_assoc] at h
    exact absurd (tx_inj (wd _ (by decide)) (wd _ (by decide)) h).1 (by decide)
  · rw [if_neg (show ¬ (3 : Int) = 1 by decide), if_pos (show (3 : Int) = 3 from rfl), if_pos (show (1 : Int) = 1 from rfl)] at h
    simp only [List.append_assoc] at h
    exact absurd (tx_inj (wd _ (by decide)) (wd _ (by decide)) h).1 (by decide)
  · obtain rfl := nil0 a1
    obtain rfl := nil1 a2
    obtain rfl := nil0 b1
    obtain rfl := nil1 b2
    rw [if_neg (by decide), if_pos rfl, if_neg (by decide), if_pos rfl] at h
    simp only [List.append_assoc] at h
    have h := (tx_inj (wd _ (by decide)) (wd _ (by decide)) h).2
    have h := (tx_inj (wd _ (by decide)) (wd _ (by decide)) h).2
    obtain ⟨hd, h⟩ := tx_inj (s := sB d) (t := sB d') z1 z1' h
    have h := (tx_inj (wd _ (by decide)) (wd _ (by decide)) h).2
    rw [sB_inj hd, a0, b0]
    exact ⟨rfl, h⟩
  · rw [if_neg (by decide), if_pos rfl, if_neg (by decide), if_neg (by decide), if_pos rfl] at h
    simp only [List.append_assoc] at h
    exact absurd (tx_inj (wd _ (by decide)) (wd _ (by decide)) h).1 (by decide)
  · rw [if_neg (show ¬ (2 : Int) = 1 by decide), if_neg (show ¬ (2 : Int) = 3 by decide), if_pos (show (2 : Int) = 2 from rfl), if_pos (show (1 : Int) = 1 from rfl)] at h
    simp only [List.append_assoc] at h
    exact absurd (tx_inj (wd _ (by decide)) (wd _ (by decide)) h).1 (by decide)
  · rw [if_neg (by decide), if_neg (by decide), if_pos rfl, if_neg (by decide), if_pos rfl] at h
    simp only [List.append_assoc] at h
    exact absurd (tx_inj (wd _ (by decide)) (wd _ (by decide)) h).1 (by decide)
  · rw [if_neg (by decide), if_neg (by decide), if_pos rfl, if_neg (by decide), if_neg (by decide), if_pos rfl] at h
    simp only [List.append_assoc] at h
    have h := (tx_inj (wd _ (by decide)) (wd _ (by decide)) h).2
    have hD : d = d' := by
      have e1 : d.data.toList = [] := List.eq_nil_of_length_eq_zero a1
      have e2 : d'.data.toList = [] := List.eq_nil_of_length_eq_zero b1
      exact sB_inj (by unfold sB; rw [e1, e2])
    obtain ⟨e1, e2, e3⟩ := ents_inj Ok1 ns ks ns' ks' r q a2 b2 z2 z2' (fun t ht u hu r q h => ih t ht u r q ⟨⟨_, hk t ht⟩, hSm.t t ht⟩ hu h) (fun t ht => ⟨⟨_, hk' t ht⟩, hSm'.t t ht⟩) h
    rw [hD, a0, b0, e1, e2]
    exact ⟨rfl, e3⟩
end Go.Proofs.Ytikamklgelcnhaa
/- NarOne, in the code. -/
namespace Go.Proofs.Ytikamklgelcnhaa
open Go.RowKit
set_option linter.unusedSimpArgs false
structure BoxT2 (w W : World) (t0 t1 t2 t3 t4 x0 x1 x2 x3 x4 : Value) : Prop where
  b : Below w.heap.size w W
  s : w.heap.size + 1 + 1 ≤ W.heap.size
  t : Bx W w.heap.size t0 t1 t2 t3 t4
  x : Bx W (w.heap.size + 1) x0 x1 x2 x3 x4
theorem BoxT2.kept {w W W' : World} {t0 t1 t2 t3 t4 x0 x1 x2 x3 x4 : Value} (h : BoxT2 w W t0 t1 t2 t3 t4 x0 x1 x2 x3 x4) {B : Nat} (hb : Below B W W') (hB : w.heap.size + 1 + 1 ≤ B) : BoxT2 w W' t0 t1 t2 t3 t4 x0 x1 x2 x3 x4 :=
  ⟨h.b.trans (hb.mono (by omega)), by have := h.s; have := hb.size; omega, h.t.kept hb (by omega), h.x.kept hb (by omega)⟩
theorem nar_one {T U : Tr} (h1 : (chk T 1 0).1 = 0) (h2 : (chk U 1 0).1 = 0) (w1 : wt T ≤ 3000) (w2 : wt U ≤ 3000) : encS T = encS U ↔ T = U := by
  constructor
  · intro h
    unfold encS at h
    rw [if_pos h1, if_pos h2] at h
    unfold narB at h
    have h' := List.append_cancel_left h
    exact (node_inj T U [] [] ⟨⟨1, 0, h1⟩, by omega⟩ ⟨⟨1, 0, h2⟩, by omega⟩ (by rw [h'])).1
  · intro h; rw [h]
theorem enc_len {T : Tr} (h : wt T ≤ 3000) : (encS T).length ≤ 1000000 := by
  unfold encS
  split
  · unfold narB
    have := nodeB_len T
    have l : (txs [wMagic]).length = 24 := by decide
    rw [List.length_append]; omega
  · simp
set_option maxRecDepth 20000 in
set_option maxHeartbeats 4000000 in
theorem one_any (T U : Tr) (lo hi : Nat) (ct cu : List Value) (w : World) (hT : Lies lo hi w T ct) (hU : Lies lo hi w U cu) (hhi : hi ≤ w.heap.size) (hF : Fit T) (hG : Fit U) :
    Calls Try.prog 8 #[.agg ct.toArray, .agg cu.toArray] w fun e w' => e = .returned (.bool true) ∧ Below w.heap.size w w' := by
  obtain ⟨kt, xt, at0, nt, ct, bt, mt, dt, et, pt, qt, rfl⟩ := hT.form
  obtain ⟨ku, xu, au, nu, cu, bu, mu, du, eu, pu, qu, rfl⟩ := hU.form
  obtain ⟨wA, hwA⟩ : ∃ wA, wA = (w.alloc (.cells #[.int .i64 kt, .bool xt, .slice at0 nt ct, .slice bt mt dt, .slice et pt qt] 26)).alloc (.cells #[.int .i64 ku, .bool xu, .slice au nu cu, .slice bu mu du, .slice eu pu qu] 26) := ⟨_, rfl⟩
  have hbA : Below w.heap.size w wA := by rw [hwA]; exact ((Below.refl _ _).alloc (Nat.le_refl _) _).alloc (by simp) _
  have hsA : wA.heap.size = w.heap.size + 1 + 1 := by rw [hwA]; simp
  have hB : BoxT2 w wA (.int .i64 kt) (.bool xt) (.slice at0 nt ct) (.slice bt mt dt) (.slice et pt qt) (.int .i64 ku) (.bool xu) (.slice au nu cu) (.slice bu mu du) (.slice eu pu qu) := by
    refine ⟨hbA, by omega, ?_, ?_⟩
    · rw [hwA]; exact (bx_new w _ _ _ _ _).kept ((Below.refl (w.heap.size + 1) _).alloc (by simp) _) (by omega)
    · rw [hwA]
      have := bx_new (w.alloc (.cells #[.int .i64 kt, .bool xt, .slice at0 nt ct, .slice bt mt dt, .slice et pt qt] 26)) (.int .i64 ku) (.bool xu) (.slice au nu cu) (.slice bu mu du) (.slice eu pu qu)
      simpa using this
  have HL := hide (And.intro hT hU)
  have HH1 := hide (heavy_any T lo hi _ wA (hT.kept hbA hhi) hF (by omega))
  have HFG := hide hG
  have HwA := hide hwA
  have HB := hide hB
  clear hwA hbA hT hU hF hG hB
  go_enter Try.func8, Try.ntmps8
  go_wp2_with fail
  rw [← unhide HwA]
  refine (unhide HH1).mono ?_
  rintro e w1 ⟨hb1, hans⟩
  have hs1 := hb1.size
  have HB1 := hide ((unhide HB).kept hb1 (by omega))
  clear hb1 HH1 HB HwA
  rcases hans with rfl | ⟨rfl, hwt⟩
  · go_wp2_with fail
    go_ret
    exact ⟨rfl, (unhide HB1).b⟩
  have HH2 := hide (heavy_any U lo hi _ w1 ((unhide HL).2.kept (unhide HB1).b hhi) (unhide HFG) (by omega))
  obtain ⟨y0, y1, y2, y3, y4⟩ := (unhide HB1).x.cells
  go_wp2_with fail
  refine (unhide HH2).mono ?_
  rintro e w2 ⟨hb2, hans⟩
  have hs2 := hb2.size
  have HB2 := hide ((unhide HB1).kept hb2 (by omega))
  clear hb2 HH2 HB1 y0 y1 y2 y3 y4
  rcases hans with rfl | ⟨rfl, hwu⟩
  · go_wp2_with fail
    go_ret
    exact ⟨rfl, (unhide HB2).b⟩
  have HE1 := hide (encode_any T lo hi _ w2 ((unhide HL).1.kept (unhide HB2).b hhi) hwt (by omega))
  obtain ⟨y0, y1, y2, y3, y4⟩ := (unhide HB2).t.cells
  go_wp2_with fail
  refine (unhide HE1).mono ?_
  rintro e w3 ⟨hb3, a3, c3, rfl, hr3⟩
  have hs3 := hb3.size
  have HB3 := hide ((unhide HB2).kept hb3 (by omega))
  have HE2 := hide (encode_any U lo hi _ w3 ((unhide HL).2.kept (unhide HB3).b hhi) hwu (by omega))
  have HR3 := hide hr3
  clear hb3 HE1 HB2 y0 y1 y2 y3 y4 hr3
  obtain ⟨y0, y1, y2, y3, y4⟩ := (unhide HB3).x.cells
  go_wp2_with fail
  refine (unhide HE2).mono ?_
  rintro e w4 ⟨hb4, a4, c4, he4, hr4⟩
  subst he4
  have hs4 := hb4.size
  have HB4 := hide ((unhide HB3).kept hb4 (by omega))
  have HR4 := hide (And.intro ((unhide HR3).below hb4 (Nat.le_refl _)) hr4)
  clear hb4 HE2 HB3 y0 y1 y2 y3 y4 hr4 HR3
  by_cases hc1 : (chk T 1 0).1 = 0
  case neg =>
    have hne := ne0 hc1
    clear hc1
    generalize (chk T 1 0).1 = c1 at *
    generalize (chk U 1 0).1 = c2 at *
    go_wp2_with fail
    refine (known_any _).mono ?_
    rintro e wk ⟨rfl, hbk⟩
    have hsk := hbk.size
    go_wp2_with fail
    go_ret
    exact ⟨rfl, (unhide HB4).b.trans (hbk.mono (by omega))⟩
  by_cases hc2 : (chk U 1 0).1 = 0
  case neg =>
    have hne := ne0 hc2
    rw [hc1]
    clear hc2 hc1
    generalize (chk U 1 0).1 = c2 at *
    go_wp2_with fail
    refine (known_any _).mono ?_
    rintro e wk ⟨rfl, hbk⟩
    have hsk := hbk.size
    go_wp2_with fail
    go_ret
    exact ⟨rfl, (unhide HB4).b.trans (hbk.mono (by omega))⟩
  have hiff := nar_one hc1 hc2 hwt hwu
  have hl1 := enc_len hwt
  have hl2 := enc_len hwu
  rw [hc1, hc2]
  have HS := hide (fun (W : World) (h : Below w4.heap.size w4 W) => same_any w2.heap.size w3.heap.size w3.heap.size w4.heap.size a3 a4 _ _ c3 c4 (encS T) (encS U) W ((unhide HR4).1.below h (by omega)) ((unhide HR4).2.below h (Nat.le_refl _)) rfl rfl (by omega) (by omega))
  have HQ := hide (fun (W : World) (h : Below w4.heap.size w4 W) => equal_any T U lo hi lo hi _ _ W (((unhide HL).1.kept (unhide HB4).b hhi).kept h (by omega)) (((unhide HL).2.kept (unhide HB4).b hhi).kept h (by omega)) (by omega) (by omega) (by have := h.size; omega) (by have := h.size; omega))
  have HK := hide (fun W => known_any W)
  have HI := hide hiff
  clear hc1 hc2 hiff
  generalize hsb : decide (encS T = encS U) = sb at *
  have Hsb := hide hsb
  clear hsb
  generalize (encS T).length = n1 at *
  generalize (encS U).length = n2 at *
  have hBt := (unhide HB4).t
  have hBu := (unhide HB4).x
  go_wp2_with fail
  refine wp_region_noPanic ?_
  refine wp_region_held_drew (S := fun w' => Bx w' w.heap.size (.int .i64 kt) (.bool xt) (.slice at0 nt ct) (.slice bt mt dt) (.slice et pt qt) ∧ Bx w' (w.heap.size + 1) (.int .i64 ku) (.bool xu) (.slice au nu cu) (.slice bu mu du) (.slice eu pu qu)) (by kernel_rfl) ⟨hBt, hBu⟩ (fun hHeld => ?_)
  refine wpAnyH_take (i := 0) (v := .slice a3 n1 c3) rfl (by kernel_rfl) (by kernel_rfl) (by kernel_rfl) (fun _ _ _ h => h) (Or.inl ⟨by rfl, ?_⟩) hHeld ?_
  · intro w' hS'; go_simp
  try simp only [Act.put, List.getElem_toArray, List.getElem_cons_zero, List.getElem_cons_succ, List.setIfInBounds_toArray, List.set_cons_zero, List.set_cons_succ]
  refine wpAnyH_take (i := 1) (v := .slice a4 n2 c4) rfl (by kernel_rfl) (by kernel_rfl) (by kernel_rfl) (fun _ _ _ h => h) (Or.inl ⟨by rfl, ?_⟩) hHeld ?_
  · intro w' hS'; go_simp
  try simp only [Act.put, List.getElem_toArray, List.getElem_cons_zero, List.getElem_cons_succ, List.setIfInBounds_toArray, List.set_cons_zero, List.set_cons_succ]
  refine wpAnyH_take (i := 3) (v := .agg #[.int .i64 kt, .bool xt, .slice at0 nt ct, .slice bt mt dt, .slice et pt qt]) rfl (by kernel_rfl) (by kernel_rfl) (by kernel_rfl) (fun _ _ _ h => h) (Or.inl ⟨by rfl, ?_⟩) hHeld ?_
  · intro w' hS'; obtain ⟨t0, t1, t2, t3, t4⟩ := hS'.1.cells; go_simp
  try simp only [Act.put, List.getElem_toArray, List.getElem_cons_zero, List.getElem_cons_succ, List.setIfInBounds_toArray, List.set_cons_zero, List.set_cons_succ]
  refine wpAnyH_take (i := 4) (v := .agg #[.int .i64 ku, .bool xu, .slice au nu cu, .slice bu mu du, .slice eu pu qu]) rfl (by kernel_rfl) (by kernel_rfl) (by kernel_rfl) (fun _ _ _ h => h) (Or.inl ⟨by rfl, ?_⟩) hHeld ?_
  · intro w' hS'; obtain ⟨t0, t1, t2, t3, t4⟩ := hS'.2.cells; go_simp
  try simp only [Act.put, List.getElem_toArray, List.getElem_cons_zero, List.getElem_cons_succ, List.setIfInBounds_toArray, List.set_cons_zero, List.set_cons_succ]
  refine wpAnyH_ready (rs := [2]) (by kernel_rfl) (by simp) (AllReadyH.cons rfl (fun K hK => ?_) AllReadyH.nil)
  simp only [List.getElem_toArray, List.getElem_cons_zero, List.getElem_cons_succ]
  go_simp
  refine (unhide HS _ (Below.refl w4.heap.size w4).drew).mono ?_
  rintro e w5 ⟨⟨q5, hq5⟩, rfl⟩
  have hbw5' : Below w4.heap.size w4 w5 := by rw [hq5]; exact below_drewN (Below.refl w4.heap.size w4).drew q5
  clear hq5
  have hsw5 := hbw5'.size
  refine hK.out _ _ ⟨hBt.kept hbw5' (by omega), hBu.kept hbw5' (by omega)⟩ (fun hHeld => ?_)
  clear hK K
  try simp only [Act.put, List.getElem_toArray, List.getElem_cons_zero, List.getElem_cons_succ, List.setIfInBounds_toArray, List.set_cons_zero, List.set_cons_succ]
  refine wpAnyH_ready (rs := [5]) (by kernel_rfl) (by simp) (AllReadyH.cons rfl (fun K hK => ?_) AllReadyH.nil)
  simp only [List.getElem_toArray, List.getElem_cons_zero, List.getElem_cons_succ]
  go_simp
  refine (unhide HQ _ hbw5').mono ?_
  rintro e w6 ⟨hb6, hans⟩
  have hbw6' : Below w4.heap.size w4 w6 := hbw5'.trans (hb6.mono hsw5)
  obtain rfl : e = .returned (.bool sb) := by
    rcases hans with ⟨h1, h2⟩ | ⟨h1, h2⟩
    · rw [h2, ← unhide Hsb, decide_eq_true ((unhide HI).2 h1)]
    · rw [h2, ← unhide Hsb, decide_eq_false (fun h => h1 ((unhide HI).1 h))]
  clear hb6 hans
  have hsw6 := hbw6'.size
  refine hK.out _ _ ⟨hBt.kept hbw6' (by omega), hBu.kept hbw6' (by omega)⟩ (fun hHeld => ?_)
  clear hK K
  try simp only [Act.put, List.getElem_toArray, List.getElem_cons_zero, List.getElem_cons_succ, List.setIfInBounds_toArray, List.set_cons_zero, List.set_cons_succ]
  refine wpAnyH_take (i := 6) (v := .bool true) rfl (by kernel_rfl) (by kernel_rfl) (by kernel_rfl) (fun _ _ _ h => h) (Or.inl ⟨by rfl, ?_⟩) hHeld ?_
  · intro w' hS'; go_simp
  try simp only [Act.put, List.getElem_toArray, List.getElem_cons_zero, List.getElem_cons_succ, List.setIfInBounds_toArray, List.set_cons_zero, List.set_cons_succ]
  refine wpAnyH_take (i := 7) (v := .bool true) rfl (by kernel_rfl) (by kernel_rfl) (by kernel_rfl) (fun _ _ _ h => h) (Or.inl ⟨by rfl, ?_⟩) hHeld ?_
  · intro w' hS'; go_simp
  try simp only [Act.put, List.getElem_toArray, List.getElem_cons_zero, List.getElem_cons_succ, List.setIfInBounds_toArray, List.set_cons_zero, List.set_cons_succ]
  refine wpAnyH_ready (rs := [8]) (by kernel_rfl) (by simp) (AllReadyH.cons rfl (fun K hK => ?_) AllReadyH.nil)
  simp only [List.getElem_toArray, List.getElem_cons_zero, List.getElem_cons_succ]
  go_simp
  refine (unhide HK _).mono ?_
  rintro e w7 ⟨rfl, hb7⟩
  have hbw7' : Below w4.heap.size w4 w7 := hbw6'.trans (hb7.mono hsw6)
  clear hb7
  have hsw7 := hbw7'.size
  refine hK.out _ _ ⟨hBt.kept hbw7' (by omega), hBu.kept hbw7' (by omega)⟩ (fun hHeld => ?_)
  clear hK K
  try simp only [Act.put, List.getElem_toArray, List.getElem_cons_zero, List.getElem_cons_succ, List.setIfInBounds_toArray, List.set_cons_zero, List.set_cons_succ]
  refine wpAnyH_take (i := 9) (v := .bool true) rfl (by kernel_rfl) (by kernel_rfl) (by kernel_rfl) (fun _ _ _ h => h) (Or.inl ⟨by rfl, ?_⟩) hHeld ?_
  · intro w' hS'; go_simp
  try simp only [Act.put, List.getElem_toArray, List.getElem_cons_zero, List.getElem_cons_succ, List.setIfInBounds_toArray, List.set_cons_zero, List.set_cons_succ]
  refine wpAnyH_take (i := 10) (v := .bool true) rfl (by kernel_rfl) (by kernel_rfl) (by kernel_rfl) (fun _ _ _ h => h) (Or.inl ⟨by rfl, ?_⟩) hHeld ?_
  · intro w' hS'; go_simp
  try simp only [Act.put, List.getElem_toArray, List.getElem_cons_zero, List.getElem_cons_succ, List.setIfInBounds_toArray, List.set_cons_zero, List.set_cons_succ]
  refine wpAnyH_done (by kernel_rfl) ?_ _
  refine NoPanic.normal ?_
  clear hHeld
  go_wp2_with fail
  go_ret
  exact ⟨rfl, (unhide HB4).b.trans (hbw7'.mono (by omega))⟩
end Go.Proofs.Ytikamklgelcnhaa
/- Decode and Split of what was written, of more and of less. Mathematics alone. -/
namespace Go.Proofs.Ytikamklgelcnhaa
open Go.RowKit
set_option linter.unusedSimpArgs false
/-- An error is not nought. -/
def NZ (σ : RS) : Prop := ∀ E, σ = .error E → E ≠ 0
theorem nz_ok (q : Nat × Nat) : NZ (.ok q) := fun E h => by cases h
theorem rdT_nz {l : List UInt8} {E : Int} (h : rdT l = .error E) : E ≠ 0 := by
  unfold rdT at h
  split at h
  · injection h with h; omega
  · split at h
    · injection h with h; omega
    · split at h
      · injection h with h; omega
      · split at h
        · cases h
        · injection h with h; omega
theorem nz_fail {k : Int} (hk : k ≠ 0) {σ : RS} (h : NZ σ) : NZ (failS k σ) := by
  intro E he
  match σ, h, he with
  | .error E', h, he => cases he; exact h E rfl
  | .ok _, _, he => cases he; exact hk
theorem nz_txt (B : List UInt8) {σ : RS} (h : NZ σ) : NZ (txtS B σ).1 := by
  intro E he
  match σ, h, he with
  | .error E', h, he => cases he; exact h E rfl
  | .ok (p, m), _, he =>
    cases hr : rdT (B.drop p) with
    | error E' => simp only [txtS, hr] at he; cases he; exact rdT_nz hr
    | ok n => simp only [txtS, hr] at he; cases he
theorem nz_want (B : List UInt8) (s : ByteArray) {σ : RS} (h : NZ σ) : NZ (wantS B σ s) := by
  unfold wantS
  split
  · exact nz_txt B h
  · exact nz_fail (by decide) (nz_txt B h)
theorem nz_wants (B : List UInt8) (ts : List ByteArray) : ∀ {σ : RS}, NZ σ → NZ (wantsS B σ ts) := by
  induction ts with
  | nil => intro σ h; exact h
  | cons s ts ih => intro σ h; exact ih (nz_want B s h)
theorem nz_either (B : List UInt8) (f s : ByteArray) {σ : RS} (h : NZ σ) : NZ (eitherS B σ f s).1 := by
  unfold eitherS
  split
  · exact nz_txt B h
  · exact nz_want B s h
theorem nz_begin (deep : Nat) {σ : RS} (h : NZ σ) : NZ (beginS deep σ) := by
  intro E he
  match σ, h, he with
  | .error E', h, he => cases he; exact h E rfl
  | .ok (p, m), _, he =>
    simp only [beginS] at he
    split at he
    · injection he with he; omega
    · cases he
theorem nz_kind (B : List UInt8) (deep : Nat) {σ : RS} (h : NZ σ) : NZ (kindS B deep σ).1 := nz_txt B (nz_wants B _ (nz_begin deep h))
theorem nz_file (B : List UInt8) {σ : RS} (h : NZ σ) : NZ (fileS B σ).1 := by
  refine nz_wants B _ (nz_txt B ?_)
  unfold fileS1
  split
  · exact nz_wants B _ (nz_either B _ _ h)
  · exact nz_either B _ _ h
theorem nz_link (B : List UInt8) {σ : RS} (h : NZ σ) : NZ (linkS B σ).1 := nz_wants B _ (nz_txt B (nz_wants B _ h))
theorem nz_ent (B : List UInt8) {σ : RS} (h : NZ σ) : NZ (entS B σ).1 := nz_wants B _ (nz_txt B (nz_wants B _ h))
theorem nz_dir (B : List UInt8) (N : RS → RS × Tr) (hN : ∀ σ, NZ σ → NZ (N σ).1) (k : Nat) : ∀ σ ns ks, NZ σ → NZ (dirS B N k σ ns ks).1 := by
  induction k with
  | zero => intro σ ns ks h; rw [dirS]; exact h
  | succ k ih =>
    intro σ ns ks h
    rw [dirS]
    split
    · exact ih _ _ _ (nz_wants B _ (hN _ (nz_ent B (nz_either B _ _ h))))
    · exact nz_either B _ _ h
theorem nz_node (B : List UInt8) (f : Nat) : ∀ deep σ, NZ σ → NZ (nodeS B f deep σ).1 := by
  induction f with
  | zero => intro deep σ h; rw [nodeS]; exact h
  | succ f ih =>
    intro deep σ h
    rw [nodeS]
    split
    · exact nz_file B (nz_kind B deep h)
    · split
      · exact nz_link B (nz_kind B deep h)
      · split
        · exact nz_dir B _ (ih _) _ _ _ _ (nz_kind B deep h)
        · exact nz_fail (by decide) (nz_kind B deep h)
theorem nz_tree (B : List UInt8) {σ : RS} (h : NZ σ) : NZ (treeS B σ).1 := nz_node B 65 1 _ (nz_wants B _ h)
theorem nz_end (B : List UInt8) {σ : RS} (h : NZ σ) : NZ (endS B σ) := by
  intro E he
  match σ, h, he with
  | .error E', h, he => cases he; exact h E rfl
  | .ok (p, m), _, he =>
    simp only [endS] at he
    split at he
    · injection he with he; omega
    · cases he
theorem nz_chk (T : Tr) {σ : RS} (h : NZ σ) : NZ (chkS T σ) := by
  intro E he
  match σ, h, he with
  | .error E', h, he => cases he; exact h E rfl
  | .ok (p, m), _, he =>
    simp only [chkS] at he
    split at he
    · cases he
    · injection he with he; omega
/-- What is read without an error. -/
theorem dec_zero {B : List UInt8} (h : (decS B).2 = 0) : (chk (decS B).1 1 0).1 = 0 ∧ B = narB (decS B).1 ∧ 8 * wt (decS B).1 ≤ B.length := by
  cases hq : chkS (treeS B (.ok (0, 0))).2 (endS B (treeS B (.ok (0, 0))).1) with
  | error E =>
    rw [decS_err hq] at h
    exact absurd h (nz_chk _ (nz_end B (nz_tree B (nz_ok _))) E hq)
  | ok q =>
    rw [decS_ok hq]
    have h1 := chkS_ok hq
    have h2 := endS_ok h1
    obtain ⟨p, m⟩ := q
    obtain ⟨h3, h4, h5, h6⟩ := tree_inv h2
    rw [h2] at h1
    simp only [endS] at h1
    split at h1
    · cases h1
    · rename_i hp
      have hd : B.drop p = [] := List.drop_eq_nil_of_le (by omega)
      rw [hd, List.append_nil] at h4
      refine ⟨?_, h4, h6⟩
      rw [h2] at hq
      simp only [endS, if_neg hp, chkS] at hq
      split at hq
      · assumption
      · cases hq
theorem dec_w {T : Tr} (hc : (chk T 1 0).1 = 0) : decS (narB T) = (T, 0) := by
  have h := tree_w T [] hc
  rw [List.append_nil] at h
  have e : chkS (treeS (narB T) (.ok (0, 0))).2 (endS (narB T) (treeS (narB T) (.ok (0, 0))).1) = .ok ((narB T).length, (chk T 1 0).2) := by
    rw [h]
    simp only [endS, Nat.lt_irrefl, if_false, chkS, if_pos hc]
  rw [decS_ok e, h]
theorem dec_more {T : Tr} (hc : (chk T 1 0).1 = 0) : decS (narB T ++ [0]) = (tr0, 3) := by
  have h := tree_w T [0] hc
  refine decS_err ?_
  rw [h]
  have hl : (narB T).length < (narB T ++ [0]).length := by simp
  simp only [endS, if_pos hl, chkS]
theorem dec_less {T : Tr} (hc : (chk T 1 0).1 = 0) {k : Nat} (hk : k < (narB T).length) : decS ((narB T).take k) = (tr0, 2) := by
  refine decS_err ?_
  rw [tree_cut T hc k hk]
  rfl
theorem spl_w {T : Tr} (hc : (chk T 1 0).1 = 0) (l : List UInt8) : splS (narB T ++ l) = ((narB T).length, 0) := by
  have h := tree_w T l hc
  refine splS_ok (m := (chk T 1 0).2) ?_
  rw [h]
  simp only [chkS, if_pos hc]
/-- The weight of what is read. -/
theorem wt_read {B : List UInt8} (hB : B.length ≤ 800000) : ∀ p m, (treeS B (.ok (0, 0))).1 = .ok (p, m) → wt (treeS B (.ok (0, 0))).2 ≤ 100000 := fun p m h => by
  have := (tree_inv h).2.2.2
  omega
theorem wt_w {T : Tr} (hc : (chk T 1 0).1 = 0) (hw : wt T ≤ 3000) (l : List UInt8) : ∀ p m, (treeS (narB T ++ l) (.ok (0, 0))).1 = .ok (p, m) → wt (treeS (narB T ++ l) (.ok (0, 0))).2 ≤ 100000 := fun p m _ => by
  rw [tree_w T l hc]; show wt T ≤ _; omega
theorem wt_less {T : Tr} (hc : (chk T 1 0).1 = 0) {k : Nat} (hk : k < (narB T).length) : ∀ p m, (treeS ((narB T).take k) (.ok (0, 0))).1 = .ok (p, m) → wt (treeS ((narB T).take k) (.ok (0, 0))).2 ≤ 100000 := fun p m h => by
  rw [tree_cut T hc k hk] at h; cases h
theorem enc_ok {T : Tr} (hc : (chk T 1 0).1 = 0) : encS T = narB T := by unfold encS; rw [if_pos hc]
theorem nar_big (T : Tr) : 24 ≤ (narB T).length := by
  unfold narB
  have l : (txs [wMagic]).length = 24 := by decide
  rw [List.length_append]; omega
end Go.Proofs.Ytikamklgelcnhaa
/- NarBack, in the code. -/
namespace Go.Proofs.Ytikamklgelcnhaa
open Go.RowKit
set_option linter.unusedSimpArgs false
/-- A box that stands. -/
structure Box1 (w W : World) (t0 t1 t2 t3 t4 : Value) : Prop where
  b : Below w.heap.size w W
  s : w.heap.size + 1 ≤ W.heap.size
  t : Bx W w.heap.size t0 t1 t2 t3 t4
theorem Box1.kept {w W W' : World} {t0 t1 t2 t3 t4 : Value} (h : Box1 w W t0 t1 t2 t3 t4) {B : Nat} (hb : Below B W W') (hB : w.heap.size + 1 ≤ B) : Box1 w W' t0 t1 t2 t3 t4 :=
  ⟨h.b.trans (hb.mono (by omega)), by have := h.s; have := hb.size; omega, h.t.kept hb (by omega)⟩
set_option maxRecDepth 20000 in
set_option maxHeartbeats 4000000 in
theorem back_any (T : Tr) (B : List UInt8) (lo hi : Nat) (ct : List Value) (b : Value) (w : World) (hT : Lies lo hi w T ct) (hb : Row lo hi w b B.length (bv B)) (hlo : lo ≤ hi) (hhi : hi ≤ w.heap.size) (hF : Fit T) (hBm : B.length ≤ 140737488351232) :
    Calls Try.prog 5 #[.agg ct.toArray, b] w fun e w' => e = .returned (.bool true) ∧ Below w.heap.size w w' := by
  obtain ⟨kt, xt, at0, nt, ct, bt, mt, dt, et, pt, qt, rfl⟩ := hT.form
  obtain ⟨ab, cb, rfl, hcb⟩ := hb.slice
  obtain ⟨wA, hwA⟩ : ∃ wA, wA = w.alloc (.cells #[.int .i64 kt, .bool xt, .slice at0 nt ct, .slice bt mt dt, .slice et pt qt] 26) := ⟨_, rfl⟩
  have hbA : Below w.heap.size w wA := by rw [hwA]; exact (Below.refl _ _).alloc (Nat.le_refl _) _
  have hsA : wA.heap.size = w.heap.size + 1 := by rw [hwA]; simp
  have hB : Box1 w wA (.int .i64 kt) (.bool xt) (.slice at0 nt ct) (.slice bt mt dt) (.slice et pt qt) := ⟨hbA, by omega, by rw [hwA]; exact bx_new w _ _ _ _ _⟩
  have HL := hide (And.intro hT hb)
  have HH1 := hide (heavy_any T lo hi _ wA (hT.kept hbA hhi) hF (by omega))
  have HwA := hide hwA
  have HB := hide hB
  clear hwA hbA hT hb hF hB
  go_enter Try.func5, Try.ntmps5
  go_wp2_with fail
  rw [← unhide HwA]
  refine (unhide HH1).mono ?_
  rintro e w1 ⟨hb1, hans⟩
  have hs1 := hb1.size
  have HB1 := hide ((unhide HB).kept hb1 (by omega))
  clear hb1 HH1 HB HwA
  rcases hans with rfl | ⟨rfl, hwt⟩
  · go_wp2_with fail
    go_ret
    exact ⟨rfl, (unhide HB1).b⟩
  by_cases hbl : 20000 < B.length
  · generalize B.length = nb at *
    go_wp2_with fail
    go_ret
    exact ⟨rfl, (unhide HB1).b⟩
  have HE1 := hide (encode_any T lo hi _ w1 ((unhide HL).1.kept (unhide HB1).b hhi) hwt (by omega))
  obtain ⟨y0, y1, y2, y3, y4⟩ := (unhide HB1).t.cells
  go_wp2_with fail
  refine (unhide HE1).mono ?_
  rintro e w2 ⟨hb2, a2, c2, rfl, hr2⟩
  have hs2 := hb2.size
  have HB2 := hide ((unhide HB1).kept hb2 (by omega))
  have hl1 := enc_len hwt
  have HR2 := hide hr2
  clear hb2 HE1 HB1 y0 y1 y2 y3 y4 hr2
  by_cases hc : (chk T 1 0).1 = 0
  have HD := hide (decode_any w1.heap.size w2.heap.size _ (encS T) w2 (unhide HR2) hs2 (Nat.le_refl _) (by omega) (by rw [enc_ok hc]; simpa using wt_w hc hwt []))
  rw [enc_ok hc, dec_w hc] at HD
  rw [enc_ok hc, hc]
  clear HR2
  generalize (narB T).length = nn at *
  obtain ⟨y0, y1, y2, y3, y4⟩ := (unhide HB2).t.cells
  go_wp2_with fail
  refine (unhide HD).mono ?_
  rintro e w3 ⟨hb3, k3, x3, q1, r1, q2, o2, r2, q3, o3, r3, rfl, hL3, -⟩
  have hs3 := hb3.size
  have HB3 := hide ((unhide HB2).kept hb3 (by omega))
  have HL3 := hide hL3
  clear hb3 HD HB2 y0 y1 y2 y3 y4 hL3
  obtain ⟨y0, y1, y2, y3, y4⟩ := (unhide HB3).t.cells
  have hlt3 : w.heap.size < w3.heap.size := (unhide HB3).s
  go_wp2_with fail
  have hba : Below w3.heap.size w3 (w3.alloc (.cells #[.int .i64 k3, .bool x3, .slice q1 T.dat.size r1, .slice q2 o2 r2, .slice q3 o3 r3] 26)) := (Below.refl _ _).alloc (Nat.le_refl _) _
  have HBa := hide ((unhide HB3).kept hba (by omega))
  refine (equal_any T T lo hi w2.heap.size w3.heap.size _ _ _ ((unhide HL).1.kept (unhide HBa).b hhi) ((unhide HL3).kept hba (Nat.le_refl _)) (by omega) (by omega) (by have := hba.size; omega) hba.size).mono ?_
  rintro e wz ⟨hbz, hans⟩
  have hsz := hbz.size
  have HBZ := hide ((unhide HBa).kept hbz (by have := hba.size; omega))
  obtain rfl : e = .returned (.bool true) := by
    rcases hans with ⟨_, h⟩ | ⟨h, _⟩
    · exact h
    · exact absurd rfl h
  have hsw : w2.heap.size ≤ wz.heap.size := by have := hba.size; omega
  clear hba hbz hsz hans HBa HB3 HL3 y0 y1 y2 y3 y4 hlt3
  go_wp2_with fail
  rotate_left
  have hne := ne0 hc
  have HBZ := HB2
  obtain ⟨wz, hwz⟩ : ∃ wz, wz = w2 := ⟨_, rfl⟩
  rw [← hwz] at HBZ ⊢
  have hsw : w2.heap.size ≤ wz.heap.size := by rw [hwz]; exact Nat.le_refl _
  clear HB2 HR2 hc hwz
  generalize (chk T 1 0).1 = c1 at *
  generalize (encS T).length = nn at *
  go_wp2_with fail
  rotate_left
  all_goals
    have HDb := hide (decode_any lo hi _ B wz ((unhide HL).2.below (unhide HBZ).b hhi) hlo (by omega) (by omega) (wt_read (by omega)))
    have HDZ := hide (@dec_zero B)
    generalize decS B = R at *
    obtain ⟨V, g⟩ := R
    refine (unhide HDb).mono ?_
    rintro e w4 ⟨hb4, k4, x4, q4, r4, q5, o5, r5, q6, o6, r6, rfl, hL4, -⟩
    have hs4 := hb4.size
    have HB4 := hide ((unhide HBZ).kept hb4 (by have := (unhide HBZ).s; omega))
    have HL4 := hide hL4
    have HR4 := hide (((unhide HL).2.below (unhide HBZ).b hhi).below hb4 (by omega))
    clear hb4 HDb HBZ hL4
    by_cases hg : g = 0
    case neg =>
      have hbe : (g == 0) = false := by rw [beq_eq_false_iff_ne]; exact hg
      go_wp2_with fail
      refine (known_any _).mono ?_
      rintro e wk ⟨rfl, hbk⟩
      have hsk := hbk.size
      go_wp2_with fail
      go_ret
      exact ⟨rfl, (unhide HB4).b.trans (((Below.refl w4.heap.size w4).alloc (Nat.le_refl _) _).mono (by omega) |>.trans (hbk.mono (by simp; omega)))⟩
    subst hg
    obtain ⟨hcV, hBV, hwV⟩ := unhide HDZ rfl
    have hwV' : wt V ≤ 3000 := by have h : 8 * wt V ≤ B.length := hwV; omega
    have hEV : encS V = B := by rw [enc_ok hcV]; exact hBV.symm
    have hba : Below w4.heap.size w4 (w4.alloc (.cells #[.int .i64 k4, .bool x4, .slice q4 V.dat.size r4, .slice q5 o5 r5, .slice q6 o6 r6] 26)) := (Below.refl _ _).alloc (Nat.le_refl _) _
    have HE5 := hide (encode_any V wz.heap.size w4.heap.size _ _ ((unhide HL4).kept hba (Nat.le_refl _)) hwV' hba.size)
    unfold EncA at HE5
    rw [hEV, show (chk V 1 0).1 = 0 from hcV] at HE5
    have HBa := hide ((unhide HB4).kept hba (by omega))
    have HRa := hide ((unhide HR4).below hba (by omega))
    clear hba hwV hwV' hcV hBV HL4 HR4 HB4 hEV HDZ
    go_wp2_with fail
    generalize w4.alloc (.cells #[.int .i64 k4, .bool x4, .slice q4 V.dat.size r4, .slice q5 o5 r5, .slice q6 o6 r6] 26) = wa at *
    refine (unhide HE5).mono ?_
    rintro e w6 ⟨hb6, a6, c6, rfl, hr6⟩
    have hs6 := hb6.size
    have HB6 := hide ((unhide HBa).kept hb6 (unhide HBa).s)
    have HR6 := hide (And.intro hr6 ((unhide HRa).below hb6 (by have := (unhide HBa).s; omega)))
    clear hb6 HE5 HBa HRa hr6
    go_wp2_with fail
    refine (same_any _ _ _ _ a6 ab _ _ c6 cb B B w6 (unhide HR6).1 (unhide HR6).2 rfl rfl (by omega) (by omega)).mono ?_
    rintro e w7 ⟨⟨q7, hq7⟩, rfl⟩
    have hb7 : Below w6.heap.size w6 w7 := by rw [hq7]; exact below_drewN (Below.refl w6.heap.size w6) q7
    have hs7 := hb7.size
    have HB7 := hide ((unhide HB6).kept hb7 (unhide HB6).s)
    rw [decide_eq_true rfl]
    clear hb7 hq7 HB6 HR6
    go_wp2_with fail
    refine (known_any _).mono ?_
    rintro e wk ⟨rfl, hbk⟩
    have hsk := hbk.size
    go_wp2_with fail
    go_ret
    exact ⟨rfl, (unhide HB7).b.trans (hbk.mono (by have := (unhide HB7).s; omega))⟩
end Go.Proofs.Ytikamklgelcnhaa
