import Derived.Test.YtikamklgelcnhaaK5
import Derived.Test.YtikamklgelcnhaaK4
/- The document's node. -/
namespace Go.Proofs.Ytikamklgelcnhaa
open Go.RowKit
set_option linter.unusedSimpArgs false
theorem txtS_none {B : List UInt8} {σ : RS} {E : Int} (h : (txtS B σ).1 = .error E) : (txtS B σ).2 = ⟨#[]⟩ := by
  match σ, h with
  | .error E', _ => rfl
  | .ok (p, m), h =>
    cases hr : rdT (B.drop p) with
    | error E' => simp only [txtS, hr]
    | ok n => simp only [txtS, hr] at h; cases h
theorem node_bad {B : List UInt8} {f deep : Nat} {σ τ : RS} {s : ByteArray} (h : kindS B deep σ = (τ, s)) (h1 : s ≠ bReg) (h2 : s ≠ bSym) (h3 : s ≠ bDir) : nodeS B (f + 1) deep σ = (failS 3 τ, .mk 0 false ⟨#[]⟩ [] []) := by
  rw [nodeS, h, if_neg h1, if_neg h2, if_neg h3]
theorem node_err {B : List UInt8} {f deep : Nat} {σ : RS} {E : Int} {s : ByteArray} (h : kindS B deep σ = (.error E, s)) : nodeS B (f + 1) deep σ = (.error E, .mk 0 false ⟨#[]⟩ [] []) := by
  have hs : s = ⟨#[]⟩ := by
    have := txtS_none (B := B) (σ := wantsS B (beginS deep σ) [bOpen, bType]) (E := E) (by show (kindS B deep σ).1 = _; rw [h])
    have h2 : (kindS B deep σ).2 = ⟨#[]⟩ := this
    rw [h] at h2; exact h2
  subst hs
  exact node_bad h (by decide) (by decide) (by decide)
theorem node_reg {B : List UInt8} {f deep : Nat} {σ τ : RS} (h : kindS B deep σ = (τ, bReg)) : nodeS B (f + 1) deep σ = ((fileS B τ).1, .mk 1 (fileS B τ).2.1 (fileS B τ).2.2 [] []) := by
  rw [nodeS, h, if_pos rfl]
theorem node_sym {B : List UInt8} {f deep : Nat} {σ τ : RS} (h : kindS B deep σ = (τ, bSym)) : nodeS B (f + 1) deep σ = ((linkS B τ).1, .mk 3 false (linkS B τ).2 [] []) := by
  rw [nodeS, h, if_neg (show ¬ bSym = bReg by decide), if_pos rfl]
theorem node_dir {B : List UInt8} {f deep : Nat} {σ τ : RS} (h : kindS B deep σ = (τ, bDir)) : nodeS B (f + 1) deep σ = ((dirS B (nodeS B f (deep + 1)) (B.length + 1) τ [] []).1, .mk 2 false ⟨#[]⟩ (dirS B (nodeS B f (deep + 1)) (B.length + 1) τ [] []).2.1 (dirS B (nodeS B f (deep + 1)) (B.length + 1) τ [] []).2.2) := by
  rw [nodeS, h, if_neg (show ¬ bDir = bReg by decide), if_neg (show ¬ bDir = bSym by decide), if_pos rfl]
theorem tl_close : bClose.toList = [41] := by rw [ByteArray.toList_eq]; rfl
theorem tl_entry : bEntry.toList = [101, 110, 116, 114, 121] := by rw [ByteArray.toList_eq]; rfl
theorem tl_exec : bExec.toList = [101, 120, 101, 99, 117, 116, 97, 98, 108, 101] := by rw [ByteArray.toList_eq]; rfl
theorem tl_cont : bCont.toList = [99, 111, 110, 116, 101, 110, 116, 115] := by rw [ByteArray.toList_eq]; rfl
theorem Bx.set1' {w : World} {b : Nat} {v0 v1 v2 v3 v4 : Value} (h : Bx w b v0 v1 v2 v3 v4) (v : Value) : Bx (w.setCell ⟨b, 1, none⟩ v) b v0 v v2 v3 v4 := by
  unfold Bx at *; simp [World.setCell, Array.getElem?_modify, h]
set_option maxRecDepth 20000 in
set_option maxHeartbeats 4000000 in
theorem qnode_step (lo hi r : Nat) (B : List UInt8) (hB : B.length ≤ 4000000) (f deep : Nat) (hdeep : deep ≤ 1000)
    (HN : ∀ (w : World) (σ : RS), Qst lo hi r B w σ → deep ≤ 64 → Calls Try.prog 62 #[.pointer (some ⟨r, 0, none⟩), .int .i64 ((deep : Int) + 1)] w (QnA lo hi r B w (nodeS B f (deep + 1) σ).1 (nodeS B f (deep + 1) σ).2))
    (w : World) (p m : Nat) (h : Qst lo hi r B w (.ok (p, m))) (hb : ¬ (65536 < m + 1 ∨ 64 < deep)) :
    Calls Try.prog 62 #[.pointer (some ⟨r, 0, none⟩), .int .i64 (deep : Int)] w (QnA lo hi r B w (nodeS B (f + 1) deep (.ok (p, m))).1 (nodeS B (f + 1) deep (.ok (p, m))).2) := by
  obtain ⟨Q, hQ⟩ : ∃ Q, Q = QnA lo hi r B w (nodeS B (f + 1) deep (.ok (p, m))).1 (nodeS B (f + 1) deep (.ok (p, m))).2 := ⟨_, rfl⟩
  rw [← hQ]
  have HQ := hide hQ
  clear hQ
  obtain ⟨⟨a, c, g1, g2⟩, g3, g4, g5, g6, g7⟩ := h
  have hlt := g1.lt
  obtain ⟨M, hM⟩ : ∃ M : Int, M = (m : Int) + 1 := ⟨_, rfl⟩
  obtain ⟨W0, hW0⟩ : ∃ W0, W0 = w.setCell ⟨r, 2, none⟩ (.int .i64 M) := ⟨_, rfl⟩
  have hz0 : W0.heap.size = w.heap.size := by rw [hW0]; simp
  have hS0 : Sole r w W0 := by rw [hW0]; exact (Sole.refl r w).setCell 2 _
  obtain ⟨W1, hW1⟩ : ∃ W1, W1 = W0.alloc (.cells #[.int .i64 0, .bool false, .slice none 0 0, .slice none 0 0, .slice none 0 0] 26) := ⟨_, rfl⟩
  have hb1 : Below W0.heap.size W0 W1 := by rw [hW1]; exact (Below.refl _ _).alloc (Nat.le_refl _) _
  have hQ1 : Qst lo hi r B W1 (.ok (p, m + 1)) := by
    have hx0 : Qx W0 r (.slice a (B.drop p).length c) 0 ((m + 1 : Nat) : Int) := by rw [hW0]; have := g1.set2 M; rw [hM] at this ⊢; exact this
    refine ⟨⟨a, c, hx0.kept hb1 (by omega), ?_⟩, g3, by omega, g5, g6, by have := hb1.size; omega⟩
    refine (g2.same (w' := W0) (fun k hk1 hk2 => ?_)).below hb1 (by omega)
    rw [hW0]; exact set_other _ _ _ _ _ (by omega)
  have hS1 : Sole r w W1 := hS0.trans (Sole.of_below hb1)
  have hx1 : Bx W1 w.heap.size (.int .i64 0) (.bool false) (.slice none 0 0) (.slice none 0 0) (.slice none 0 0) := by
    rw [hW1, ← hz0]; exact bx_new _ _ _ _ _ _
  have hs1 : W1.heap.size = w.heap.size + 1 := by rw [hW1]; simp [hz0]
  have H1 := hide (must_st lo hi r B W1 _ bOpen hQ1)
  have HX1 := hide (And.intro hS1 (And.intro hx1 hs1))
  have HW1 := hide hW1
  have HW0 := hide hW0
  obtain ⟨mi, hmi⟩ : ∃ mi : Int, mi = (m : Int) := ⟨_, rfl⟩
  rw [← hmi] at g1
  obtain ⟨h0, h1, h2⟩ := g1.cells
  have f1 := g1.fr 1
  have f2 := g1.fr 2
  have hM' : wrap64 (mi + 1) = M := by rw [hmi, hM, wrap64]; omega
  have hA : ¬ 65536 < M := by omega
  have hD : ¬ 64 < deep := by omega
  have HNN := hide HN
  have HBB := hide hb
  have HG := hide (And.intro g7 g3)
  clear g1 g2 g3 g5 g6 g7 hz0 hS0 hb1 hW0 hW1 hQ1 hS1 hx1 hs1 hmi hM hb HN g4
  go_enter Try.func62, Try.ntmps62
  go_wp2_with fail
  rw [← unhide HW0, ← unhide HW1]
  refine (unhide H1).mono ?_
  rintro x w2 ⟨rfl, hs2, hR2⟩
  have hz2 := hs2.size
  rw [(unhide HX1).2.2] at hz2
  have HX2 := hide (And.intro ((unhide HX1).1.trans hs2) ((unhide HX1).2.1.sole hs2 (by omega)))
  have H2 := hide (must_st lo hi r B w2 _ bType hR2)
  clear hs2 hR2 H1 HX1 h0 h1 h2 f1 f2 hM' hA
  go_wp2_with fail
  refine (unhide H2).mono ?_
  rintro x w3 ⟨rfl, hs3, hR3⟩
  have hz3 := hs3.size
  have HX3 := hide (And.intro ((unhide HX2).1.trans hs3) ((unhide HX2).2.sole hs3 (by omega)))
  have H3 := hide (qtext_st lo hi r B w3 _ hR3)
  clear hs3 hR3 H2 HX2
  obtain ⟨R, hR⟩ : ∃ R, R = kindS B deep (.ok (p, m)) := ⟨_, rfl⟩
  have hkd : txtS B (wantS B (wantS B (.ok (p, m + 1)) bOpen) bType) = R := by
    rw [hR]
    unfold kindS
    simp only [beginS]
    rw [if_neg (unhide HBB)]
    rfl
  rw [hkd] at H3
  have HR := hide hR
  clear hR hkd
  obtain ⟨τ, s⟩ := R
  go_wp2_with fail
  refine (unhide H3).mono ?_
  rintro x w4 ⟨rfl, hs4, hR4⟩
  have hz4 := hs4.size
  have hbK : ∀ k : Int, Below w4.heap.size w4 (w4.alloc (.cells #[.int .i64 k, .bool false, .slice none 0 0, .slice none 0 0, .slice none 0 0] 26)) := fun k => (Below.refl _ _).alloc (Nat.le_refl _) _
  have HWK : Hid (∀ k : Int, QnW lo hi r w4.heap.size B w (w4.alloc (.cells #[.int .i64 k, .bool false, .slice none 0 0, .slice none 0 0, .slice none 0 0] 26)) τ k false (.slice none 0 0) (.slice none 0 0) (.slice none 0 0)) := fun k =>
    ⟨((unhide HX3).1.trans hs4).trans (Sole.of_below (hbK k)), hR4.kept (hbK k) hR4.lt hR4.hi, ((unhide HX3).2.sole hs4 (by omega)).kept (hbK k) (by omega), bx_new _ _ _ _ _ _, by simp, by omega, hlt, (unhide HG).1⟩
  have hx4 := (unhide HX3).2.sole hs4 (by omega)
  obtain ⟨x0, x1, x2, x3, x4⟩ := hx4.cells
  have g0 := hx4.fr 0
  have g1 := hx4.fr 1
  have g2 := hx4.fr 2
  have g3 := hx4.fr 3
  have g4 := hx4.fr 4
  obtain ⟨qa, qk, qc, e, qn, hqx, hcase⟩ := hR4.x
  obtain ⟨h0, h1, h2⟩ := hqx.cells
  have f1 := hqx.fr 1
  have hnz : r < w4.heap.size := by omega
  have hnw : w.heap.size < w4.heap.size := by omega
  have hrw : r ≠ w.heap.size := by omega
  have hsw : set5 (w4.alloc (.cells #[.int .i64 0, .bool false, .slice none 0 0, .slice none 0 0, .slice none 0 0] 26)) w.heap.size (.int .i64 0) (.bool false) (.slice none 0 0) (.slice none 0 0) (.slice none 0 0) = (set5 w4 w.heap.size (.int .i64 0) (.bool false) (.slice none 0 0) (.slice none 0 0) (.slice none 0 0)).alloc (.cells #[.int .i64 0, .bool false, .slice none 0 0, .slice none 0 0, .slice none 0 0] 26) := by
    unfold set5; simp [go_sem, hnw]
  have HSW := hide hsw
  have HB4 := hide (And.intro hB hdeep)
  clear hs4 hR4 H3 HX3 hbK hqx hx4 hz2 hz3 hz4 hD hdeep hB hsw
  rcases hcase with ⟨p', m', rfl, rfl, hm', hp', rfl, rfl⟩ | ⟨he, rfl⟩
  case inr =>
    have hbe : (e == 0) = false := by rw [beq_eq_false_iff_ne]; exact he
    have HE : Hid (Q (.returned (.agg #[.int .i64 0, .bool false, .slice none 0 0, .slice none 0 0, .slice none 0 0])) (set5 (w4.alloc (.cells #[.int .i64 0, .bool false, .slice none 0 0, .slice none 0 0, .slice none 0 0] 26)) w.heap.size (.int .i64 0) (.bool false) (.slice none 0 0) (.slice none 0 0) (.slice none 0 0))) := by
      show Q _ _
      rw [unhide HQ, node_err (unhide HR).symm]
      exact (unhide HWK 0).end (leaf_lies (row_none _ _ _))
    rw [unhide HSW] at HE
    clear HWK
    go_wp2_with fail
    exact bodyPost_ret (v := .agg #[.int .i64 0, .bool false, .slice none 0 0, .slice none 0 0, .slice none 0 0]) (by simp [results, Try.results62, go_sem, x0, x1, x2, x3, x4, hnw]) rfl (unhide HE)
  have HMP := hide (And.intro hm' hp')
  clear hm' hp'
  generalize hk0 : B.length - p' = k0 at *
  clear hk0
  by_cases hreg : s = bReg
  · have hb1 : (s.toList == [114, 101, 103, 117, 108, 97, 114]) = true := by rw [hreg, tl_reg]; rfl
    have HRG := hide hreg
    have H5 := hide (qtext_st lo hi r B _ _ (unhide HWK 1).rst)
    have HW5 := hide (unhide HWK 1)
    clear hreg HWK HSW
    go_wp2_with fail
    refine (unhide H5).mono ?_
    rintro x w5 ⟨rfl, hs5, hR5⟩
    have HW6 := hide ((unhide HW5).call hs5 hR5)
    clear hs5 hR5 H5 HW5 h0 h1 h2 f1 x0 x1 x2 x3 x4 g0 g1 g2 g3 g4 hb1
    obtain ⟨R5, hR5⟩ : ∃ R5, R5 = txtS B (.ok (p', m')) := ⟨_, rfl⟩
    have HEI : Hid (eitherS B (.ok (p', m')) bExec bCont = if R5.2 = bExec then (R5.1, true) else (isS R5.1 R5.2 bCont, false)) := by
      show eitherS _ _ _ _ = _
      unfold eitherS; rw [wantS_isS, ← hR5]
    have HTE : Hid (∀ E, R5.1 = .error E → R5.2 ≠ bExec) := by
      intro E he hx
      rw [hR5] at he hx
      rw [txtS_none he] at hx
      exact absurd hx (by decide)
    rw [← hR5] at HW6 ⊢
    clear hR5
    obtain ⟨τ1, s1⟩ := R5
    obtain ⟨qa, qk, qc, e, qn, hqx, hcase⟩ := (unhide HW6).rst.x
    obtain ⟨h0, h1, h2⟩ := hqx.cells
    have f1 := hqx.fr 1
    have hx6 := (unhide HW6).bt
    obtain ⟨y0, y1, y2, y3, y4⟩ := hx6.cells
    have gf1 := hx6.fr 1
    clear hqx hx6
    by_cases hex : s1 = bExec
    · have hexb : (s1.toList == [101, 120, 101, 99, 117, 116, 97, 98, 108, 101]) = true := by rw [hex, tl_exec]; rfl
      obtain ⟨p1, m1, rfl, hτ1⟩ : ∃ p1 m1, e = 0 ∧ τ1 = .ok (p1, m1) := by
        rcases hcase with ⟨p1, m1, h1, _, _, _, _, h2⟩ | ⟨_, h2⟩
        · exact ⟨p1, m1, h1, h2⟩
        · exact absurd hex (unhide HTE _ h2)
      have HEI2 : Hid (eitherS B (.ok (p', m')) bExec bCont = (τ1, true)) := by show _ = _; rw [unhide HEI]; exact if_pos hex
      have HW7 := hide ((unhide HW6).own (Below.refl _ w5) 1 (.bool true) (fun W2 h => h.set1' _))
      have H7 := hide (must_st lo hi r B _ _ ⟨#[]⟩ (unhide HW7).rst)
      clear hcase hτ1 hex HW6 HEI HTE
      go_wp2_with fail
      generalize w5.setCell ⟨w4.heap.size, 1, none⟩ (.bool true) = w6 at *
      refine (unhide H7).mono ?_
      rintro x w61 ⟨rfl, hs61, hR61⟩
      have HW61 := hide ((unhide HW7).call hs61 hR61)
      have H62 := hide (qtext_st lo hi r B _ _ hR61)
      clear hs61 hR61 H7 HW7 h0 h1 h2 f1 y0 y1 y2 y3 y4 gf1 hexb
      go_wp2_with fail
      refine (unhide H62).mono ?_
      rintro x w62 ⟨rfl, hs62, hR62⟩
      have HWC := hide ((unhide HW61).call hs62 hR62)
      clear hs62 hR62 H62 HW61
      obtain ⟨R62, hR62⟩ : ∃ R62, R62 = txtS B (wantS B τ1 ⟨#[]⟩) := ⟨_, rfl⟩
      have HFS0 : Hid (fileS1 B (.ok (p', m')) = isS R62.1 R62.2 bCont ∧ (eitherS B (.ok (p', m')) bExec bCont).2 = true) := by
        refine ⟨?_, by rw [unhide HEI2]⟩
        unfold fileS1
        rw [unhide HEI2, hR62]
        rfl
      rw [← hR62] at HWC ⊢
      clear hR62 HEI2
      obtain ⟨τc, sc⟩ := R62
      obtain ⟨qa, qk, qc, e, qn, hqx, hcase⟩ := (unhide HWC).rst.x
      obtain ⟨h0, h1, h2⟩ := hqx.cells
      have f1 := hqx.fr 1
      clear hqx
      rcases hcase with ⟨pc, mc, rfl, hqn, _, _, _, hτc⟩ | ⟨he, hτc⟩
      · subst hqn
        replace hτc : τc = .ok (pc, mc) := hτc
        by_cases hct : sc = bCont
        · have hb2 : (sc.toList == [99, 111, 110, 116, 101, 110, 116, 115]) = true := by rw [hct, tl_cont]; rfl
          obtain ⟨τd, hτd⟩ : ∃ τd, τd = isS τc sc bCont := ⟨_, rfl⟩
          have HFS : Hid (fileS1 B (.ok (p', m')) = τd ∧ (eitherS B (.ok (p', m')) bExec bCont).2 = true) := by rw [hτd]; exact unhide HFS0
          have HWD : Hid (QnW lo hi r w4.heap.size B w w62 τd 1 true (.slice none 0 0) (.slice none 0 0) (.slice none 0 0)) := by
            show QnW _ _ _ _ _ _ _ _ _ _ _ _ _
            rw [hτd]; unfold isS; rw [if_pos hct]; exact unhide HWC
          have HTX := hide (qtext_st lo hi r B _ _ (unhide HWD).rst)
          clear hct hτd hτc HWC HFS0
          go_wp2_with fail
          clear h0 h1 h2 f1 hb2
          refine (unhide HTX).mono ?_
          rintro x w7 ⟨rfl, hs7, hR7⟩
          have HW7 := hide ((unhide HWD).call hs7 hR7)
          clear hs7 hR7 HTX HWD
          obtain ⟨R7, hR7⟩ : ∃ R7, R7 = txtS B τd := ⟨_, rfl⟩
          rw [← hR7] at HW7 ⊢
          have HR7 := hide hR7
          clear hR7
          obtain ⟨τ7, d⟩ := R7
          obtain ⟨a8, c8, w8, hcv, hb8, hr8, hz8⟩ := conv_row w7 d
          have hgz := (unhide HW7).sz
          have hb8' : Below (w4.heap.size + 1) w7 w8 := hb8.mono (by omega)
          have hx8 := (unhide HW7).bt.kept hb8' (by omega)
          obtain ⟨y0, y1, y2, y3, y4⟩ := hx8.cells
          have gf2 := hx8.fr 2
          have HW8 := hide ((unhide HW7).own hb8' 2 (.slice a8 d.size c8) (fun W2 h => h.set2 _))
          have hr8' : Row (w4.heap.size + 1) (w8.setCell ⟨w4.heap.size, 2, none⟩ (.slice a8 d.size c8)).heap.size (w8.setCell ⟨w4.heap.size, 2, none⟩ (.slice a8 d.size c8)) (.slice a8 d.size c8) d.size (byteVals d) := by
            refine (hr8.mono (by omega) (by simp)).same (fun k hk _ => set_other _ _ _ _ _ (by omega))
          have HR8 := hide hr8'
          have H9 := hide (must_st lo hi r B _ _ bClose (unhide HW8).rst)
          clear hb8 hr8 hb8' hx8 hr8' HW7 hgz hz8
          go_wp2_with fail
          generalize w8.setCell ⟨w4.heap.size, 2, none⟩ (.slice a8 d.size c8) = w9 at *
          refine (unhide H9).mono ?_
          rintro x w10 ⟨rfl, hs10, hR10⟩
          have HW10 := hide ((unhide HW8).call hs10 hR10)
          have hr10 : Row (w4.heap.size + 1) w10.heap.size w10 (.slice a8 d.size c8) d.size (byteVals d) := by
            have hs := hs10.size
            have hl := (unhide HW8).lt
            have hg := (unhide HW8).gt
            have hz := (unhide HW8).sz
            refine ((unhide HR8).same (fun k hk1 hk2 => hs10.block k hk2 (by omega))).mono (Nat.le_refl _) hs
          clear hs10 hR10 H9 HR8 HW8 y0 y1 y2 y3 y4 gf2 hcv
          obtain ⟨y0, y1, y2, y3, y4⟩ := (unhide HW10).bt.cells
          obtain ⟨x0, x1, x2, x3, x4⟩ := (unhide HW10).br.cells
          have g0 := (unhide HW10).br.fr 0
          have g1 := (unhide HW10).br.fr 1
          have g2 := (unhide HW10).br.fr 2
          have g3 := (unhide HW10).br.fr 3
          have g4 := (unhide HW10).br.fr 4
          have HE : Hid (Q (.returned (.agg #[.int .i64 1, .bool true, .slice a8 d.size c8, .slice none 0 0, .slice none 0 0])) (set5 w10 w.heap.size (.int .i64 1) (.bool true) (.slice a8 d.size c8) (.slice none 0 0) (.slice none 0 0))) := by
            show Q _ _
            rw [unhide HQ]
            have := (unhide HW10).end (leaf_lies hr10)
            have e1 := node_reg (f := f) ((unhide HR).symm.trans (by rw [unhide HRG]))
            have e2 : fileS B (.ok (p', m')) = (wantS B τ7 bClose, true, d) := by
              unfold fileS
              rw [(unhide HFS).1, (unhide HFS).2, ← unhide HR7]
              rfl
            rw [e1, e2]
            exact this
          clear HW10 hr10
          go_wp2_with fail
          exact bodyPost_ret (v := .agg #[.int .i64 1, .bool true, .slice a8 d.size c8, .slice none 0 0, .slice none 0 0]) (by simp [results, Try.results62, go_sem, x0, x1, x2, x3, x4]) rfl (unhide HE)
        · have hb2 : (sc.toList == [99, 111, 110, 116, 101, 110, 116, 115]) = false := by rw [← tl_cont]; exact tl_ne hct
          obtain ⟨τd, hτd⟩ : ∃ τd, τd = isS τc sc bCont := ⟨_, rfl⟩
          have HFS : Hid (fileS1 B (.ok (p', m')) = τd ∧ (eitherS B (.ok (p', m')) bExec bCont).2 = true) := by rw [hτd]; exact unhide HFS0
          have HWD : Hid (QnW lo hi r w4.heap.size B w (w62.setCell ⟨r, 1, none⟩ (.int .i64 3)) τd 1 true (.slice none 0 0) (.slice none 0 0) (.slice none 0 0)) := by
            show QnW _ _ _ _ _ _ _ _ _ _ _ _ _
            rw [hτd]; unfold isS; rw [if_neg hct]
            have hq := (unhide HWC).rst
            rw [hτc] at hq
            rw [hτc]
            exact (unhide HWC).call ((Sole.refl r _).setCell 1 _) (hq.fail 3 (by decide))
          have HTX := hide (qtext_st lo hi r B _ _ (unhide HWD).rst)
          clear hct hτd hτc HWC HFS0
          go_wp2_with fail
          clear h0 h1 h2 f1 hb2
          generalize w62.setCell ⟨r, 1, none⟩ (.int .i64 3) = wD at *
          refine (unhide HTX).mono ?_
          rintro x w7 ⟨rfl, hs7, hR7⟩
          have HW7 := hide ((unhide HWD).call hs7 hR7)
          clear hs7 hR7 HTX HWD
          obtain ⟨R7, hR7⟩ : ∃ R7, R7 = txtS B τd := ⟨_, rfl⟩
          rw [← hR7] at HW7 ⊢
          have HR7 := hide hR7
          clear hR7
          obtain ⟨τ7, d⟩ := R7
          obtain ⟨a8, c8, w8, hcv, hb8, hr8, hz8⟩ := conv_row w7 d
          have hgz := (unhide HW7).sz
          have hb8' : Below (w4.heap.size + 1) w7 w8 := hb8.mono (by omega)
          have hx8 := (unhide HW7).bt.kept hb8' (by omega)
          obtain ⟨y0, y1, y2, y3, y4⟩ := hx8.cells
          have gf2 := hx8.fr 2
          have HW8 := hide ((unhide HW7).own hb8' 2 (.slice a8 d.size c8) (fun W2 h => h.set2 _))
          have hr8' : Row (w4.heap.size + 1) (w8.setCell ⟨w4.heap.size, 2, none⟩ (.slice a8 d.size c8)).heap.size (w8.setCell ⟨w4.heap.size, 2, none⟩ (.slice a8 d.size c8)) (.slice a8 d.size c8) d.size (byteVals d) := by
            refine (hr8.mono (by omega) (by simp)).same (fun k hk _ => set_other _ _ _ _ _ (by omega))
          have HR8 := hide hr8'
          have H9 := hide (must_st lo hi r B _ _ bClose (unhide HW8).rst)
          clear hb8 hr8 hb8' hx8 hr8' HW7 hgz hz8
          go_wp2_with fail
          generalize w8.setCell ⟨w4.heap.size, 2, none⟩ (.slice a8 d.size c8) = w9 at *
          refine (unhide H9).mono ?_
          rintro x w10 ⟨rfl, hs10, hR10⟩
          have HW10 := hide ((unhide HW8).call hs10 hR10)
          have hr10 : Row (w4.heap.size + 1) w10.heap.size w10 (.slice a8 d.size c8) d.size (byteVals d) := by
            have hs := hs10.size
            have hl := (unhide HW8).lt
            have hg := (unhide HW8).gt
            have hz := (unhide HW8).sz
            refine ((unhide HR8).same (fun k hk1 hk2 => hs10.block k hk2 (by omega))).mono (Nat.le_refl _) hs
          clear hs10 hR10 H9 HR8 HW8 y0 y1 y2 y3 y4 gf2 hcv
          obtain ⟨y0, y1, y2, y3, y4⟩ := (unhide HW10).bt.cells
          obtain ⟨x0, x1, x2, x3, x4⟩ := (unhide HW10).br.cells
          have g0 := (unhide HW10).br.fr 0
          have g1 := (unhide HW10).br.fr 1
          have g2 := (unhide HW10).br.fr 2
          have g3 := (unhide HW10).br.fr 3
          have g4 := (unhide HW10).br.fr 4
          have HE : Hid (Q (.returned (.agg #[.int .i64 1, .bool true, .slice a8 d.size c8, .slice none 0 0, .slice none 0 0])) (set5 w10 w.heap.size (.int .i64 1) (.bool true) (.slice a8 d.size c8) (.slice none 0 0) (.slice none 0 0))) := by
            show Q _ _
            rw [unhide HQ]
            have := (unhide HW10).end (leaf_lies hr10)
            have e1 := node_reg (f := f) ((unhide HR).symm.trans (by rw [unhide HRG]))
            have e2 : fileS B (.ok (p', m')) = (wantS B τ7 bClose, true, d) := by
              unfold fileS
              rw [(unhide HFS).1, (unhide HFS).2, ← unhide HR7]
              rfl
            rw [e1, e2]
            exact this
          clear HW10 hr10
          go_wp2_with fail
          exact bodyPost_ret (v := .agg #[.int .i64 1, .bool true, .slice a8 d.size c8, .slice none 0 0, .slice none 0 0]) (by simp [results, Try.results62, go_sem, x0, x1, x2, x3, x4]) rfl (unhide HE)
      · have hbe : (e == 0) = false := by rw [beq_eq_false_iff_ne]; exact he
        replace hτc : τc = .error e := hτc
        obtain ⟨τd, hτd⟩ : ∃ τd, τd = isS τc sc bCont := ⟨_, rfl⟩
        have HFS : Hid (fileS1 B (.ok (p', m')) = τd ∧ (eitherS B (.ok (p', m')) bExec bCont).2 = true) := by rw [hτd]; exact unhide HFS0
        have HWD : Hid (QnW lo hi r w4.heap.size B w w62 τd 1 true (.slice none 0 0) (.slice none 0 0) (.slice none 0 0)) := by
          show QnW _ _ _ _ _ _ _ _ _ _ _ _ _
          rw [hτd, hτc, isS_err, ← hτc]; exact unhide HWC
        have HTX := hide (qtext_st lo hi r B _ _ (unhide HWD).rst)
        clear hτd hτc HWC HFS0
        go_wp2_with fail
        clear h0 h1 h2 f1 hbe
        refine (unhide HTX).mono ?_
        rintro x w7 ⟨rfl, hs7, hR7⟩
        have HW7 := hide ((unhide HWD).call hs7 hR7)
        clear hs7 hR7 HTX HWD
        obtain ⟨R7, hR7⟩ : ∃ R7, R7 = txtS B τd := ⟨_, rfl⟩
        rw [← hR7] at HW7 ⊢
        have HR7 := hide hR7
        clear hR7
        obtain ⟨τ7, d⟩ := R7
        obtain ⟨a8, c8, w8, hcv, hb8, hr8, hz8⟩ := conv_row w7 d
        have hgz := (unhide HW7).sz
        have hb8' : Below (w4.heap.size + 1) w7 w8 := hb8.mono (by omega)
        have hx8 := (unhide HW7).bt.kept hb8' (by omega)
        obtain ⟨y0, y1, y2, y3, y4⟩ := hx8.cells
        have gf2 := hx8.fr 2
        have HW8 := hide ((unhide HW7).own hb8' 2 (.slice a8 d.size c8) (fun W2 h => h.set2 _))
        have hr8' : Row (w4.heap.size + 1) (w8.setCell ⟨w4.heap.size, 2, none⟩ (.slice a8 d.size c8)).heap.size (w8.setCell ⟨w4.heap.size, 2, none⟩ (.slice a8 d.size c8)) (.slice a8 d.size c8) d.size (byteVals d) := by
          refine (hr8.mono (by omega) (by simp)).same (fun k hk _ => set_other _ _ _ _ _ (by omega))
        have HR8 := hide hr8'
        have H9 := hide (must_st lo hi r B _ _ bClose (unhide HW8).rst)
        clear hb8 hr8 hb8' hx8 hr8' HW7 hgz hz8
        go_wp2_with fail
        generalize w8.setCell ⟨w4.heap.size, 2, none⟩ (.slice a8 d.size c8) = w9 at *
        refine (unhide H9).mono ?_
        rintro x w10 ⟨rfl, hs10, hR10⟩
        have HW10 := hide ((unhide HW8).call hs10 hR10)
        have hr10 : Row (w4.heap.size + 1) w10.heap.size w10 (.slice a8 d.size c8) d.size (byteVals d) := by
          have hs := hs10.size
          have hl := (unhide HW8).lt
          have hg := (unhide HW8).gt
          have hz := (unhide HW8).sz
          refine ((unhide HR8).same (fun k hk1 hk2 => hs10.block k hk2 (by omega))).mono (Nat.le_refl _) hs
        clear hs10 hR10 H9 HR8 HW8 y0 y1 y2 y3 y4 gf2 hcv
        obtain ⟨y0, y1, y2, y3, y4⟩ := (unhide HW10).bt.cells
        obtain ⟨x0, x1, x2, x3, x4⟩ := (unhide HW10).br.cells
        have g0 := (unhide HW10).br.fr 0
        have g1 := (unhide HW10).br.fr 1
        have g2 := (unhide HW10).br.fr 2
        have g3 := (unhide HW10).br.fr 3
        have g4 := (unhide HW10).br.fr 4
        have HE : Hid (Q (.returned (.agg #[.int .i64 1, .bool true, .slice a8 d.size c8, .slice none 0 0, .slice none 0 0])) (set5 w10 w.heap.size (.int .i64 1) (.bool true) (.slice a8 d.size c8) (.slice none 0 0) (.slice none 0 0))) := by
          show Q _ _
          rw [unhide HQ]
          have := (unhide HW10).end (leaf_lies hr10)
          have e1 := node_reg (f := f) ((unhide HR).symm.trans (by rw [unhide HRG]))
          have e2 : fileS B (.ok (p', m')) = (wantS B τ7 bClose, true, d) := by
            unfold fileS
            rw [(unhide HFS).1, (unhide HFS).2, ← unhide HR7]
            rfl
          rw [e1, e2]
          exact this
        clear HW10 hr10
        go_wp2_with fail
        exact bodyPost_ret (v := .agg #[.int .i64 1, .bool true, .slice a8 d.size c8, .slice none 0 0, .slice none 0 0]) (by simp [results, Try.results62, go_sem, x0, x1, x2, x3, x4]) rfl (unhide HE)
    · have hexb : (s1.toList == [101, 120, 101, 99, 117, 116, 97, 98, 108, 101]) = false := by rw [← tl_exec]; exact tl_ne hex
      have HFS0 : Hid (fileS1 B (.ok (p', m')) = isS τ1 s1 bCont ∧ (eitherS B (.ok (p', m')) bExec bCont).2 = false) := by
        have h := unhide HEI
        rw [if_neg hex] at h
        refine ⟨?_, by rw [h]⟩
        unfold fileS1
        rw [h]
        rfl
      have HWC := HW6
      clear hex HW6 HEI HTE y0 y1 y2 y3 y4 gf1
      generalize τ1 = τc at *
      generalize s1 = sc at *
      rcases hcase with ⟨pc, mc, rfl, hqn, _, _, _, hτc⟩ | ⟨he, hτc⟩
      · subst hqn
        replace hτc : τc = .ok (pc, mc) := hτc
        by_cases hct : sc = bCont
        · have hb2 : (sc.toList == [99, 111, 110, 116, 101, 110, 116, 115]) = true := by rw [hct, tl_cont]; rfl
          obtain ⟨τd, hτd⟩ : ∃ τd, τd = isS τc sc bCont := ⟨_, rfl⟩
          have HFS : Hid (fileS1 B (.ok (p', m')) = τd ∧ (eitherS B (.ok (p', m')) bExec bCont).2 = false) := by rw [hτd]; exact unhide HFS0
          have HWD : Hid (QnW lo hi r w4.heap.size B w w5 τd 1 false (.slice none 0 0) (.slice none 0 0) (.slice none 0 0)) := by
            show QnW _ _ _ _ _ _ _ _ _ _ _ _ _
            rw [hτd]; unfold isS; rw [if_pos hct]; exact unhide HWC
          have HTX := hide (qtext_st lo hi r B _ _ (unhide HWD).rst)
          clear hct hτd hτc HWC HFS0
          go_wp2_with fail
          clear h0 h1 h2 f1 hb2
          refine (unhide HTX).mono ?_
          rintro x w7 ⟨rfl, hs7, hR7⟩
          have HW7 := hide ((unhide HWD).call hs7 hR7)
          clear hs7 hR7 HTX HWD
          obtain ⟨R7, hR7⟩ : ∃ R7, R7 = txtS B τd := ⟨_, rfl⟩
          rw [← hR7] at HW7 ⊢
          have HR7 := hide hR7
          clear hR7
          obtain ⟨τ7, d⟩ := R7
          obtain ⟨a8, c8, w8, hcv, hb8, hr8, hz8⟩ := conv_row w7 d
          have hgz := (unhide HW7).sz
          have hb8' : Below (w4.heap.size + 1) w7 w8 := hb8.mono (by omega)
          have hx8 := (unhide HW7).bt.kept hb8' (by omega)
          obtain ⟨y0, y1, y2, y3, y4⟩ := hx8.cells
          have gf2 := hx8.fr 2
          have HW8 := hide ((unhide HW7).own hb8' 2 (.slice a8 d.size c8) (fun W2 h => h.set2 _))
          have hr8' : Row (w4.heap.size + 1) (w8.setCell ⟨w4.heap.size, 2, none⟩ (.slice a8 d.size c8)).heap.size (w8.setCell ⟨w4.heap.size, 2, none⟩ (.slice a8 d.size c8)) (.slice a8 d.size c8) d.size (byteVals d) := by
            refine (hr8.mono (by omega) (by simp)).same (fun k hk _ => set_other _ _ _ _ _ (by omega))
          have HR8 := hide hr8'
          have H9 := hide (must_st lo hi r B _ _ bClose (unhide HW8).rst)
          clear hb8 hr8 hb8' hx8 hr8' HW7 hgz hz8
          go_wp2_with fail
          generalize w8.setCell ⟨w4.heap.size, 2, none⟩ (.slice a8 d.size c8) = w9 at *
          refine (unhide H9).mono ?_
          rintro x w10 ⟨rfl, hs10, hR10⟩
          have HW10 := hide ((unhide HW8).call hs10 hR10)
          have hr10 : Row (w4.heap.size + 1) w10.heap.size w10 (.slice a8 d.size c8) d.size (byteVals d) := by
            have hs := hs10.size
            have hl := (unhide HW8).lt
            have hg := (unhide HW8).gt
            have hz := (unhide HW8).sz
            refine ((unhide HR8).same (fun k hk1 hk2 => hs10.block k hk2 (by omega))).mono (Nat.le_refl _) hs
          clear hs10 hR10 H9 HR8 HW8 y0 y1 y2 y3 y4 gf2 hcv
          obtain ⟨y0, y1, y2, y3, y4⟩ := (unhide HW10).bt.cells
          obtain ⟨x0, x1, x2, x3, x4⟩ := (unhide HW10).br.cells
          have g0 := (unhide HW10).br.fr 0
          have g1 := (unhide HW10).br.fr 1
          have g2 := (unhide HW10).br.fr 2
          have g3 := (unhide HW10).br.fr 3
          have g4 := (unhide HW10).br.fr 4
          have HE : Hid (Q (.returned (.agg #[.int .i64 1, .bool false, .slice a8 d.size c8, .slice none 0 0, .slice none 0 0])) (set5 w10 w.heap.size (.int .i64 1) (.bool false) (.slice a8 d.size c8) (.slice none 0 0) (.slice none 0 0))) := by
            show Q _ _
            rw [unhide HQ]
            have := (unhide HW10).end (leaf_lies hr10)
            have e1 := node_reg (f := f) ((unhide HR).symm.trans (by rw [unhide HRG]))
            have e2 : fileS B (.ok (p', m')) = (wantS B τ7 bClose, false, d) := by
              unfold fileS
              rw [(unhide HFS).1, (unhide HFS).2, ← unhide HR7]
              rfl
            rw [e1, e2]
            exact this
          clear HW10 hr10
          go_wp2_with fail
          exact bodyPost_ret (v := .agg #[.int .i64 1, .bool false, .slice a8 d.size c8, .slice none 0 0, .slice none 0 0]) (by simp [results, Try.results62, go_sem, x0, x1, x2, x3, x4]) rfl (unhide HE)
        · have hb2 : (sc.toList == [99, 111, 110, 116, 101, 110, 116, 115]) = false := by rw [← tl_cont]; exact tl_ne hct
          obtain ⟨τd, hτd⟩ : ∃ τd, τd = isS τc sc bCont := ⟨_, rfl⟩
          have HFS : Hid (fileS1 B (.ok (p', m')) = τd ∧ (eitherS B (.ok (p', m')) bExec bCont).2 = false) := by rw [hτd]; exact unhide HFS0
          have HWD : Hid (QnW lo hi r w4.heap.size B w (w5.setCell ⟨r, 1, none⟩ (.int .i64 3)) τd 1 false (.slice none 0 0) (.slice none 0 0) (.slice none 0 0)) := by
            show QnW _ _ _ _ _ _ _ _ _ _ _ _ _
            rw [hτd]; unfold isS; rw [if_neg hct]
            have hq := (unhide HWC).rst
            rw [hτc] at hq
            rw [hτc]
            exact (unhide HWC).call ((Sole.refl r _).setCell 1 _) (hq.fail 3 (by decide))
          have HTX := hide (qtext_st lo hi r B _ _ (unhide HWD).rst)
          clear hct hτd hτc HWC HFS0
          go_wp2_with fail
          clear h0 h1 h2 f1 hb2
          generalize w5.setCell ⟨r, 1, none⟩ (.int .i64 3) = wD at *
          refine (unhide HTX).mono ?_
          rintro x w7 ⟨rfl, hs7, hR7⟩
          have HW7 := hide ((unhide HWD).call hs7 hR7)
          clear hs7 hR7 HTX HWD
          obtain ⟨R7, hR7⟩ : ∃ R7, R7 = txtS B τd := ⟨_, rfl⟩
          rw [← hR7] at HW7 ⊢
          have HR7 := hide hR7
          clear hR7
          obtain ⟨τ7, d⟩ := R7
          obtain ⟨a8, c8, w8, hcv, hb8, hr8, hz8⟩ := conv_row w7 d
          have hgz := (unhide HW7).sz
          have hb8' : Below (w4.heap.size + 1) w7 w8 := hb8.mono (by omega)
          have hx8 := (unhide HW7).bt.kept hb8' (by omega)
          obtain ⟨y0, y1, y2, y3, y4⟩ := hx8.cells
          have gf2 := hx8.fr 2
          have HW8 := hide ((unhide HW7).own hb8' 2 (.slice a8 d.size c8) (fun W2 h => h.set2 _))
          have hr8' : Row (w4.heap.size + 1) (w8.setCell ⟨w4.heap.size, 2, none⟩ (.slice a8 d.size c8)).heap.size (w8.setCell ⟨w4.heap.size, 2, none⟩ (.slice a8 d.size c8)) (.slice a8 d.size c8) d.size (byteVals d) := by
            refine (hr8.mono (by omega) (by simp)).same (fun k hk _ => set_other _ _ _ _ _ (by omega))
          have HR8 := hide hr8'
          have H9 := hide (must_st lo hi r B _ _ bClose (unhide HW8).rst)
          clear hb8 hr8 hb8' hx8 hr8' HW7 hgz hz8
          go_wp2_with fail
          generalize w8.setCell ⟨w4.heap.size, 2, none⟩ (.slice a8 d.size c8) = w9 at *
          refine (unhide H9).mono ?_
          rintro x w10 ⟨rfl, hs10, hR10⟩
          have HW10 := hide ((unhide HW8).call hs10 hR10)
          have hr10 : Row (w4.heap.size + 1) w10.heap.size w10 (.slice a8 d.size c8) d.size (byteVals d) := by
            have hs := hs10.size
            have hl := (unhide HW8).lt
            have hg := (unhide HW8).gt
            have hz := (unhide HW8).sz
            refine ((unhide HR8).same (fun k hk1 hk2 => hs10.block k hk2 (by omega))).mono (Nat.le_refl _) hs
          clear hs10 hR10 H9 HR8 HW8 y0 y1 y2 y3 y4 gf2 hcv
          obtain ⟨y0, y1, y2, y3, y4⟩ := (unhide HW10).bt.cells
          obtain ⟨x0, x1, x2, x3, x4⟩ := (unhide HW10).br.cells
          have g0 := (unhide HW10).br.fr 0
          have g1 := (unhide HW10).br.fr 1
          have g2 := (unhide HW10).br.fr 2
          have g3 := (unhide HW10).br.fr 3
          have g4 := (unhide HW10).br.fr 4
          have HE : Hid (Q (.returned (.agg #[.int .i64 1, .bool false, .slice a8 d.size c8, .slice none 0 0, .slice none 0 0])) (set5 w10 w.heap.size (.int .i64 1) (.bool false) (.slice a8 d.size c8) (.slice none 0 0) (.slice none 0 0))) := by
            show Q _ _
            rw [unhide HQ]
            have := (unhide HW10).end (leaf_lies hr10)
            have e1 := node_reg (f := f) ((unhide HR).symm.trans (by rw [unhide HRG]))
            have e2 : fileS B (.ok (p', m')) = (wantS B τ7 bClose, false, d) := by
              unfold fileS
              rw [(unhide HFS).1, (unhide HFS).2, ← unhide HR7]
              rfl
            rw [e1, e2]
            exact this
          clear HW10 hr10
          go_wp2_with fail
          exact bodyPost_ret (v := .agg #[.int .i64 1, .bool false, .slice a8 d.size c8, .slice none 0 0, .slice none 0 0]) (by simp [results, Try.results62, go_sem, x0, x1, x2, x3, x4]) rfl (unhide HE)
      · have hbe : (e == 0) = false := by rw [beq_eq_false_iff_ne]; exact he
        replace hτc : τc = .error e := hτc
        obtain ⟨τd, hτd⟩ : ∃ τd, τd = isS τc sc bCont := ⟨_, rfl⟩
        have HFS : Hid (fileS1 B (.ok (p', m')) = τd ∧ (eitherS B (.ok (p', m')) bExec bCont).2 = false) := by rw [hτd]; exact unhide HFS0
        have HWD : Hid (QnW lo hi r w4.heap.size B w w5 τd 1 false (.slice none 0 0) (.slice none 0 0) (.slice none 0 0)) := by
          show QnW _ _ _ _ _ _ _ _ _ _ _ _ _
          rw [hτd, hτc, isS_err, ← hτc]; exact unhide HWC
        have HTX := hide (qtext_st lo hi r B _ _ (unhide HWD).rst)
        clear hτd hτc HWC HFS0
        go_wp2_with fail
        clear h0 h1 h2 f1 hbe
        refine (unhide HTX).mono ?_
        rintro x w7 ⟨rfl, hs7, hR7⟩
        have HW7 := hide ((unhide HWD).call hs7 hR7)
        clear hs7 hR7 HTX HWD
        obtain ⟨R7, hR7⟩ : ∃ R7, R7 = txtS B τd := ⟨_, rfl⟩
        rw [← hR7] at HW7 ⊢
        have HR7 := hide hR7
        clear hR7
        obtain ⟨τ7, d⟩ := R7
        obtain ⟨a8, c8, w8, hcv, hb8, hr8, hz8⟩ := conv_row w7 d
        have hgz := (unhide HW7).sz
        have hb8' : Below (w4.heap.size + 1) w7 w8 := hb8.mono (by omega)
        have hx8 := (unhide HW7).bt.kept hb8' (by omega)
        obtain ⟨y0, y1, y2, y3, y4⟩ := hx8.cells
        have gf2 := hx8.fr 2
        have HW8 := hide ((unhide HW7).own hb8' 2 (.slice a8 d.size c8) (fun W2 h => h.set2 _))
        have hr8' : Row (w4.heap.size + 1) (w8.setCell ⟨w4.heap.size, 2, none⟩ (.slice a8 d.size c8)).heap.size (w8.setCell ⟨w4.heap.size, 2, none⟩ (.slice a8 d.size c8)) (.slice a8 d.size c8) d.size (byteVals d) := by
          refine (hr8.mono (by omega) (by simp)).same (fun k hk _ => set_other _ _ _ _ _ (by omega))
        have HR8 := hide hr8'
        have H9 := hide (must_st lo hi r B _ _ bClose (unhide HW8).rst)
        clear hb8 hr8 hb8' hx8 hr8' HW7 hgz hz8
        go_wp2_with fail
        generalize w8.setCell ⟨w4.heap.size, 2, none⟩ (.slice a8 d.size c8) = w9 at *
        refine (unhide H9).mono ?_
        rintro x w10 ⟨rfl, hs10, hR10⟩
        have HW10 := hide ((unhide HW8).call hs10 hR10)
        have hr10 : Row (w4.heap.size + 1) w10.heap.size w10 (.slice a8 d.size c8) d.size (byteVals d) := by
          have hs := hs10.size
          have hl := (unhide HW8).lt
          have hg := (unhide HW8).gt
          have hz := (unhide HW8).sz
          refine ((unhide HR8).same (fun k hk1 hk2 => hs10.block k hk2 (by omega))).mono (Nat.le_refl _) hs
        clear hs10 hR10 H9 HR8 HW8 y0 y1 y2 y3 y4 gf2 hcv
        obtain ⟨y0, y1, y2, y3, y4⟩ := (unhide HW10).bt.cells
        obtain ⟨x0, x1, x2, x3, x4⟩ := (unhide HW10).br.cells
        have g0 := (unhide HW10).br.fr 0
        have g1 := (unhide HW10).br.fr 1
        have g2 := (unhide HW10).br.fr 2
        have g3 := (unhide HW10).br.fr 3
        have g4 := (unhide HW10).br.fr 4
        have HE : Hid (Q (.returned (.agg #[.int .i64 1, .bool false, .slice a8 d.size c8, .slice none 0 0, .slice none 0 0])) (set5 w10 w.heap.size (.int .i64 1) (.bool false) (.slice a8 d.size c8) (.slice none 0 0) (.slice none 0 0))) := by
          show Q _ _
          rw [unhide HQ]
          have := (unhide HW10).end (leaf_lies hr10)
          have e1 := node_reg (f := f) ((unhide HR).symm.trans (by rw [unhide HRG]))
          have e2 : fileS B (.ok (p', m')) = (wantS B τ7 bClose, false, d) := by
            unfold fileS
            rw [(unhide HFS).1, (unhide HFS).2, ← unhide HR7]
            rfl
          rw [e1, e2]
          exact this
        clear HW10 hr10
        go_wp2_with fail
        exact bodyPost_ret (v := .agg #[.int .i64 1, .bool false, .slice a8 d.size c8, .slice none 0 0, .slice none 0 0]) (by simp [results, Try.results62, go_sem, x0, x1, x2, x3, x4]) rfl (unhide HE)
  have hnr : (s.toList == [114, 101, 103, 117, 108, 97, 114]) = false := by rw [← tl_reg]; exact tl_ne hreg
  by_cases hsym : s = bSym
  · have hb1 : (s.toList == [115, 121, 109, 108, 105, 110, 107]) = true := by rw [hsym, tl_sym]; rfl
    have HRG := hide hsym
    have H5 := hide (must_st lo hi r B _ _ bTarg (unhide HWK 3).rst)
    have HW5 := hide (unhide HWK 3)
    clear hreg hsym HWK HSW
    go_wp2_with fail
    refine (unhide H5).mono ?_
    rintro x w5 ⟨rfl, hs5, hR5⟩
    have HWD0 := hide ((unhide HW5).call hs5 hR5)
    clear hs5 hR5 H5 HW5 h0 h1 h2 f1 x0 x1 x2 x3 x4 g0 g1 g2 g3 g4 hb1 hnr
    obtain ⟨τd, hτd⟩ : ∃ τd, τd = wantS B (.ok (p', m')) bTarg := ⟨_, rfl⟩
    have HFS : Hid (wantS B (.ok (p', m')) bTarg = τd) := hτd.symm
    rw [← hτd] at HWD0
    have HWD := HWD0
    have HTX := hide (qtext_st lo hi r B _ _ (unhide HWD).rst)
    clear hτd HWD0
    go_wp2_with fail
    refine (unhide HTX).mono ?_
    rintro x w7 ⟨rfl, hs7, hR7⟩
    have HW7 := hide ((unhide HWD).call hs7 hR7)
    clear hs7 hR7 HTX HWD
    obtain ⟨R7, hR7⟩ : ∃ R7, R7 = txtS B τd := ⟨_, rfl⟩
    rw [← hR7] at HW7 ⊢
    have HR7 := hide hR7
    clear hR7
    obtain ⟨τ7, d⟩ := R7
    obtain ⟨a8, c8, w8, hcv, hb8, hr8, hz8⟩ := conv_row w7 d
    have hgz := (unhide HW7).sz
    have hb8' : Below (w4.heap.size + 1) w7 w8 := hb8.mono (by omega)
    have hx8 := (unhide HW7).bt.kept hb8' (by omega)
    obtain ⟨y0, y1, y2, y3, y4⟩ := hx8.cells
    have gf2 := hx8.fr 2
    have HW8 := hide ((unhide HW7).own hb8' 2 (.slice a8 d.size c8) (fun W2 h => h.set2 _))
    have hr8' : Row (w4.heap.size + 1) (w8.setCell ⟨w4.heap.size, 2, none⟩ (.slice a8 d.size c8)).heap.size (w8.setCell ⟨w4.heap.size, 2, none⟩ (.slice a8 d.size c8)) (.slice a8 d.size c8) d.size (byteVals d) := by
      refine (hr8.mono (by omega) (by simp)).same (fun k hk _ => set_other _ _ _ _ _ (by omega))
    have HR8 := hide hr8'
    have H9 := hide (must_st lo hi r B _ _ bClose (unhide HW8).rst)
    clear hb8 hr8 hb8' hx8 hr8' HW7 hgz hz8
    go_wp2_with fail
    generalize w8.setCell ⟨w4.heap.size, 2, none⟩ (.slice a8 d.size c8) = w9 at *
    refine (unhide H9).mono ?_
    rintro x w10 ⟨rfl, hs10, hR10⟩
    have HW10 := hide ((unhide HW8).call hs10 hR10)
    have hr10 : Row (w4.heap.size + 1) w10.heap.size w10 (.slice a8 d.size c8) d.size (byteVals d) := by
      have hs := hs10.size
      have hl := (unhide HW8).lt
      have hg := (unhide HW8).gt
      have hz := (unhide HW8).sz
      refine ((unhide HR8).same (fun k hk1 hk2 => hs10.block k hk2 (by omega))).mono (Nat.le_refl _) hs
    clear hs10 hR10 H9 HR8 HW8 y0 y1 y2 y3 y4 gf2 hcv
    obtain ⟨y0, y1, y2, y3, y4⟩ := (unhide HW10).bt.cells
    obtain ⟨x0, x1, x2, x3, x4⟩ := (unhide HW10).br.cells
    have g0 := (unhide HW10).br.fr 0
    have g1 := (unhide HW10).br.fr 1
    have g2 := (unhide HW10).br.fr 2
    have g3 := (unhide HW10).br.fr 3
    have g4 := (unhide HW10).br.fr 4
    have HE : Hid (Q (.returned (.agg #[.int .i64 3, .bool false, .slice a8 d.size c8, .slice none 0 0, .slice none 0 0])) (set5 w10 w.heap.size (.int .i64 3) (.bool false) (.slice a8 d.size c8) (.slice none 0 0) (.slice none 0 0))) := by
      show Q _ _
      rw [unhide HQ]
      have := (unhide HW10).end (leaf_lies hr10)
      have e1 := node_sym (f := f) ((unhide HR).symm.trans (by rw [unhide HRG]))
      have e2 : linkS B (.ok (p', m')) = (wantS B τ7 bClose, d) := by
        unfold linkS
        rw [show wantsS B (.ok (p', m')) [bTarg] = τd from (unhide HFS), ← unhide HR7]
        rfl
      rw [e1, e2]
      exact this
    clear HW10 hr10
    go_wp2_with fail
    exact bodyPost_ret (v := .agg #[.int .i64 3, .bool false, .slice a8 d.size c8, .slice none 0 0, .slice none 0 0]) (by simp [results, Try.results62, go_sem, x0, x1, x2, x3, x4]) rfl (unhide HE)
  have hns : (s.toList == [115, 121, 109, 108, 105, 110, 107]) = false := by rw [← tl_sym]; exact tl_ne hsym
  by_cases hdir : s = bDir
  case neg =>
    have hnd : (s.toList == [100, 105, 114, 101, 99, 116, 111, 114, 121]) = false := by rw [← tl_dir]; exact tl_ne hdir
    have hse : set5 ((w4.setCell ⟨r, 1, none⟩ (.int .i64 3)).alloc (.cells #[.int .i64 0, .bool false, .slice none 0 0, .slice none 0 0, .slice none 0 0] 26)) w.heap.size (.int .i64 0) (.bool false) (.slice none 0 0) (.slice none 0 0) (.slice none 0 0) = (set5 (w4.setCell ⟨r, 1, none⟩ (.int .i64 3)) w.heap.size (.int .i64 0) (.bool false) (.slice none 0 0) (.slice none 0 0) (.slice none 0 0)).alloc (.cells #[.int .i64 0, .bool false, .slice none 0 0, .slice none 0 0, .slice none 0 0] 26) := by
      unfold set5; simp [go_sem, hnw]
    have hsf : (w4.alloc (.cells #[.int .i64 0, .bool false, .slice none 0 0, .slice none 0 0, .slice none 0 0] 26)).setCell ⟨r, 1, none⟩ (.int .i64 3) = (w4.setCell ⟨r, 1, none⟩ (.int .i64 3)).alloc (.cells #[.int .i64 0, .bool false, .slice none 0 0, .slice none 0 0, .slice none 0 0] 26) := by
      simp [go_sem, hnz]
    have HE : Hid (Q (.returned (.agg #[.int .i64 0, .bool false, .slice none 0 0, .slice none 0 0, .slice none 0 0])) ((set5 (w4.setCell ⟨r, 1, none⟩ (.int .i64 3)) w.heap.size (.int .i64 0) (.bool false) (.slice none 0 0) (.slice none 0 0) (.slice none 0 0)).alloc (.cells #[.int .i64 0, .bool false, .slice none 0 0, .slice none 0 0, .slice none 0 0] 26))) := by
      show Q _ _
      rw [← hse, ← hsf, unhide HQ, node_bad (unhide HR).symm hreg hsym hdir]
      have hq := (unhide HWK 0).rst
      exact ((unhide HWK 0).call ((Sole.refl r _).setCell 1 _) (hq.fail 3 (by decide))).end (leaf_lies (row_none _ _ _))
    clear HWK hse hsf hreg hsym hdir
    go_wp2_with fail
    exact bodyPost_ret (v := .agg #[.int .i64 0, .bool false, .slice none 0 0, .slice none 0 0, .slice none 0 0]) (by simp [results, Try.results62, go_sem, x0, x1, x2, x3, x4, hnw, hrw, Ne.symm hrw]) rfl (unhide HE)
  have hb1 : (s.toList == [100, 105, 114, 101, 99, 116, 111, 114, 121]) = true := by rw [hdir, tl_dir]; rfl
  have HRG := hide hdir
  have HW5 : Hid (QdW lo hi r w4.heap.size B w (w4.alloc (.cells #[.int .i64 2, .bool false, .slice none 0 0, .slice none 0 0, .slice none 0 0] 26)) (.ok (p', m')) [] [] (.slice none 0 0) (.slice none 0 0)) := ⟨unhide HWK 2, ql_nil _ _⟩
  have HM : Hid (DirM B (nodeS B f (deep + 1)) (.ok (p', m')) (.ok (p', m')) [] [] (B.length + 1)) := ⟨rfl, fun _ _ _ => by simp, fun p m _ => by omega, by omega, rfl, by simp⟩
  have HNL := hide (nodeS_le B f (deep + 1))
  have HSPEC : Hid (∀ (τ : RS) (ns : List ByteArray) (ks : List Tr) (k : Nat) (x : Ending) (w' : World), DirM B (nodeS B f (deep + 1)) (.ok (p', m')) τ ns ks k → ∀ τ2, dirS B (nodeS B f (deep + 1)) k τ ns ks = (τ2, ns, ks) → QnA lo hi r B w τ2 (.mk 2 false ⟨#[]⟩ ns ks) x w' → Q x w') := by
    intro τ ns ks k x w' hM τ2 h1 h2
    rw [unhide HQ, node_dir (f := f) ((unhide HR).symm.trans (by rw [unhide HRG])), ← hM.spec, h1]
    exact h2
  clear hreg hsym hdir HWK HSW HQ HR
  generalize nodeS B f (deep + 1) = N at *
  go_wp2_with fail
  go_loopw [5] (fun _ wr => ∃ (τ : RS) (ns : List ByteArray) (ks : List Tr) (a1 a2 : Option Addr) (c1 c2 k : Nat), Hid (QdW lo hi r w4.heap.size B w wr τ ns ks (.slice a1 ns.length c1) (.slice a2 ks.length c2)) ∧ Hid (DirM B N (.ok (p', m')) τ ns ks k)) (fun _ wr => qmeas r wr)
  case atStart => exact ⟨.ok (p', m'), [], [], none, none, 0, 0, B.length + 1, unhide HW5, unhide HM⟩
  case round =>
    clear HW5 HM h0 h1 h2 f1 x0 x1 x2 x3 x4 g0 g1 g2 g3 g4 hb1 hnr hns
    obtain ⟨τ, ns, ks, a1, a2, c1, c2, k, hW, hM⟩ := hrel
    obtain ⟨k', rfl⟩ : ∃ k', k = k' + 1 := ⟨k - 1, by have := (unhide hM).one; omega⟩
    obtain ⟨qa, qk, qc, e, qn, hqx, hcase⟩ := (unhide hW).nw.rst.x
    obtain ⟨h0, h1, h2⟩ := hqx.cells
    clear hqx
    rcases hcase with ⟨pc, mc, rfl, hqn, _, _, _, hτc⟩ | ⟨he, hτc⟩
    case inr =>
      have hbe : (e == 0) = false := by rw [beq_eq_false_iff_ne]; exact he
      obtain ⟨y0, y1, y2, y3, y4⟩ := (unhide hW).nw.bt.cells
      obtain ⟨x0, x1, x2, x3, x4⟩ := (unhide hW).nw.br.cells
      have g0 := (unhide hW).nw.br.fr 0
      have g1 := (unhide hW).nw.br.fr 1
      have g2 := (unhide hW).nw.br.fr 2
      have g3 := (unhide hW).nw.br.fr 3
      have g4 := (unhide hW).nw.br.fr 4
      have HE := hide (unhide HSPEC τ ns ks _ _ _ (unhide hM) τ (by rw [hτc]; exact dir_stop_err) (unhide hW).end)
      clear hτc hW hM
      go_wp2_with fail
      exact bodyPost_ret (v := .agg #[.int .i64 2, .bool false, .slice none 0 0, .slice a1 ns.length c1, .slice a2 ks.length c2]) (by simp [results, Try.results62, go_sem, x0, x1, x2, x3, x4]) rfl (unhide HE)
    subst hqn
    have H6 := hide (qtext_st lo hi r B _ _ (unhide hW).nw.rst)
    have HW0 := hW
    go_wp2_with fail
    refine (unhide H6).mono ?_
    rintro x w5 ⟨rfl, hs5, hR5⟩
    have HW5 := hide ((unhide hW).call hs5 hR5)
    clear hs5 hR5 H6 hW h0 h1 h2
    obtain ⟨R5, hR5⟩ : ∃ R5, R5 = txtS B τ := ⟨_, rfl⟩
    have HR5 := hide hR5
    rw [← hR5] at HW5 ⊢
    clear hR5
    obtain ⟨τ1, s1⟩ := R5
    obtain ⟨qa, qk, qc, e, qn, hqx, hcase⟩ := (unhide HW5).nw.rst.x
    obtain ⟨h0, h1, h2⟩ := hqx.cells
    have f1 := hqx.fr 1
    clear hqx
    rcases hcase with ⟨p1, m1, rfl, hqn, _, _, _, hτ1⟩ | ⟨he, hτ1⟩
    case inr =>
      replace hτ1 : τ1 = .error e := hτ1
      have hbe : (e == 0) = false := by rw [beq_eq_false_iff_ne]; exact he
      obtain ⟨y0, y1, y2, y3, y4⟩ := (unhide HW5).nw.bt.cells
      obtain ⟨x0, x1, x2, x3, x4⟩ := (unhide HW5).nw.br.cells
      have g0 := (unhide HW5).nw.br.fr 0
      have g1 := (unhide HW5).nw.br.fr 1
      have g2 := (unhide HW5).nw.br.fr 2
      have g3 := (unhide HW5).nw.br.fr 3
      have g4 := (unhide HW5).nw.br.fr 4
      have HE := hide (unhide HSPEC τ ns ks _ _ _ (unhide hM) τ1 (by
        have hsn : (txtS B τ).2 = ⟨#[]⟩ := txtS_none (E := e) (by rw [← unhide HR5]; exact hτ1)
        rw [dir_stop (by rw [hsn]; decide), ← unhide HR5]
        show (isS τ1 s1 bClose, ns, ks) = _
        rw [hτ1, isS_err]) (unhide HW5).end)
      clear hτ1 hτc HW5 hM
      go_wp2_with fail
      exact bodyPost_ret (v := .agg #[.int .i64 2, .bool false, .slice none 0 0, .slice a1 ns.length c1, .slice a2 ks.length c2]) (by simp [results, Try.results62, go_sem, x0, x1, x2, x3, x4]) rfl (unhide HE)
    subst hqn
    replace hτ1 : τ1 = .ok (p1, m1) := hτ1
    by_cases hcl : s1 = bClose
    · have hb1 : (s1.toList == [41]) = true := by rw [hcl, tl_close]; rfl
      obtain ⟨y0, y1, y2, y3, y4⟩ := (unhide HW5).nw.bt.cells
      obtain ⟨x0, x1, x2, x3, x4⟩ := (unhide HW5).nw.br.cells
      have g0 := (unhide HW5).nw.br.fr 0
      have g1 := (unhide HW5).nw.br.fr 1
      have g2 := (unhide HW5).nw.br.fr 2
      have g3 := (unhide HW5).nw.br.fr 3
      have g4 := (unhide HW5).nw.br.fr 4
      have HE := hide (unhide HSPEC τ ns ks _ _ _ (unhide hM) τ1 (by
        have hsn : (txtS B τ).2 = bClose := by rw [← unhide HR5]; exact hcl
        rw [dir_stop (by rw [hsn]; decide), ← unhide HR5]
        show (isS τ1 s1 bClose, ns, ks) = _
        unfold isS; rw [if_pos hcl]) (unhide HW5).end)
      clear hτ1 hτc HW5 hM hcl
      go_wp2_with fail
      exact bodyPost_ret (v := .agg #[.int .i64 2, .bool false, .slice none 0 0, .slice a1 ns.length c1, .slice a2 ks.length c2]) (by simp [results, Try.results62, go_sem, x0, x1, x2, x3, x4]) rfl (unhide HE)
    have hb1 : (s1.toList == [41]) = false := by rw [← tl_close]; exact tl_ne hcl
    by_cases hen : s1 = bEntry
    case neg =>
      have hb2 : (s1.toList == [101, 110, 116, 114, 121]) = false := by rw [← tl_entry]; exact tl_ne hen
      have HWF : Hid (QdW lo hi r w4.heap.size B w (w5.setCell ⟨r, 1, none⟩ (.int .i64 3)) (.error 3) ns ks (.slice a1 ns.length c1) (.slice a2 ks.length c2)) := by
        have hq := (unhide HW5).nw.rst
        rw [show ((τ1, s1).1) = .ok (p1, m1) from hτ1] at hq
        exact (unhide HW5).call ((Sole.refl r _).setCell 1 _) (hq.fail 3 (by decide))
      obtain ⟨y0, y1, y2, y3, y4⟩ := (unhide HWF).nw.bt.cells
      obtain ⟨x0, x1, x2, x3, x4⟩ := (unhide HWF).nw.br.cells
      have g0 := (unhide HWF).nw.br.fr 0
      have g1 := (unhide HWF).nw.br.fr 1
      have g2 := (unhide HWF).nw.br.fr 2
      have g3 := (unhide HWF).nw.br.fr 3
      have g4 := (unhide HWF).nw.br.fr 4
      have HE := hide (unhide HSPEC τ ns ks _ _ _ (unhide hM) (.error 3) (by
        have hsn : (txtS B τ).2 = s1 := by rw [← unhide HR5]
        rw [dir_stop (by rw [hsn]; exact hen), ← unhide HR5]
        show (isS τ1 s1 bClose, ns, ks) = _
        unfold isS; rw [if_neg hcl, hτ1]; rfl) (unhide HWF).end)
      clear hτ1 hτc HW5 HWF hM hcl hen
      go_wp2_with fail
      exact bodyPost_ret (v := .agg #[.int .i64 2, .bool false, .slice none 0 0, .slice a1 ns.length c1, .slice a2 ks.length c2]) (by simp [results, Try.results62, go_sem, x0, x1, x2, x3, x4]) rfl (unhide HE)
    have hb2 : (s1.toList == [101, 110, 116, 114, 121]) = true := by rw [hen, tl_entry]; rfl
    have H7 := hide (must_st lo hi r B _ _ bOpen (unhide HW5).nw.rst)
    have hEI : eitherS B τ bEntry bClose = (τ1, true) := by
      unfold eitherS
      rw [if_pos (by rw [← unhide HR5]; exact hen), ← unhide HR5]
    have hE : (eitherS B τ bEntry bClose).2 = true := by rw [hEI]
    have HM' := hide ((unhide hM).step (unhide HNL) (unhide HB4).1 hE)
    have HMS := hide (fun (w' : World) (h' : Qst lo hi r B w' (nextS B N τ)) => qmeas_step (unhide HNL) hE (unhide HW0).nw.rst h')
    have HNX : Hid (nextS B N τ = wantS B (N (entS B τ1).1).1 bClose) := by show _ = _; unfold nextS; rw [hEI]; rfl
    rw [hEI] at HM'
    have hsm := (unhide hM).small
    have hsk : ks.length ≤ 600000 := by rw [← (unhide hM).len]; exact hsm
    clear hE hEI hen hcl hM HW0 hτ1 hτc
    go_wp2_with fail
    refine (unhide H7).mono ?_
    rintro x w6 ⟨rfl, hs6, hR6⟩
    have HW6 := hide ((unhide HW5).call hs6 hR6)
    have H8 := hide (must_st lo hi r B _ _ bName hR6)
    clear hs6 hR6 H7 HW5 h0 h1 h2 f1 hb1 hb2
    go_wp2_with fail
    refine (unhide H8).mono ?_
    rintro x w7 ⟨rfl, hs7, hR7⟩
    have HW7 := hide ((unhide HW6).call hs7 hR7)
    have H9 := hide (qtext_st lo hi r B _ _ hR7)
    clear hs7 hR7 H8 HW6
    go_wp2_with fail
    refine (unhide H9).mono ?_
    rintro x w8 ⟨rfl, hs8, hR8⟩
    have HW8 := hide ((unhide HW7).call hs8 hR8)
    clear H9 HW7
    obtain ⟨R8, hR8'⟩ : ∃ R8, R8 = txtS B (wantS B (wantS B τ1 bOpen) bName) := ⟨_, rfl⟩
    have HEN : Hid (entS B τ1 = (wantS B R8.1 bNode, R8.2)) := by show _ = _; rw [hR8']; rfl
    replace HW8 : Hid (QdW lo hi r w4.heap.size B w w8 R8.1 ns ks (.slice a1 ns.length c1) (.slice a2 ks.length c2)) := by rw [hR8']; exact HW8
    have e8 : (txtS B (wantS B (wantS B (τ1, s1).1 bOpen) bName)).2 = R8.2 := by rw [hR8']
    rw [e8]
    clear e8 hR8' hs8 hR8
    obtain ⟨τ8, nm⟩ := R8
    have H10 := hide (must_st lo hi r B _ _ bNode (unhide HW8).nw.rst)
    go_wp2_with fail
    refine (unhide H10).mono ?_
    rintro x w9 ⟨rfl, hs9, hR9⟩
    have HW9 := hide ((unhide HW8).call hs9 hR9)
    clear H10 HW8 hs9 hR9
    have HC := hide (unhide HNN w9 _ (unhide HW9).nw.rst (by have := unhide HBB; omega))
    have hwr : IntKind.i64.wrap ((deep : Int) + 1) = (deep : Int) + 1 := IntWalk.i64_in _ (by have := (unhide HB4).2; omega)
    go_wp2_with fail
    refine (unhide HC).mono ?_
    rintro x w10 ⟨cs, rfl, hs10, hR10, hL10⟩
    obtain ⟨k10, x10, r1, r2, r3, r4, r5, r6, r7, r8, r9, rfl⟩ := hL10.form
    have HK := hide (QkW.make (unhide HW9) hs10 hR10 hL10)
    have H11 := hide (must_st lo hi r B _ _ bClose (unhide HK).d.nw.rst)
    clear HC hs10 hR10 hL10
    go_wp2_with fail
    refine (unhide H11).mono ?_
    rintro x w12 ⟨rfl, hs12, hR12⟩
    have HK12 := hide ((unhide HK).call hs12 hR12)
    clear H11 HK hs12 hR12 HW9 hwr
    obtain ⟨y0, y1, y2, y3, y4⟩ := (unhide HK12).d.nw.bt.cells
    have hl12 : w4.heap.size < w12.heap.size := (unhide HK12).d.nw.sz
    obtain ⟨a13, c13, w13, happ13, hb13, hrest⟩ := (unhide HK12).name nm (by omega)
    obtain ⟨q0, q1, q2, q3, q4⟩ := ((unhide HK12).d.nw.bt.kept hb13 (by omega)).cells
    have f13 := ((unhide HK12).d.nw.bt.kept hb13 (by omega)).fr 3
    obtain ⟨hN13, hQ13, hL13, hx13, hd13, hh13⟩ := hrest
    have hbx : Bx (w13.setCell ⟨w4.heap.size, 3, none⟩ (.slice a13 (ns.length + 1) c13)) w10.heap.size (.int .i64 k10) (.bool x10) (.slice r1 r2 r3) (.slice r4 r5 r6) (.slice r7 r8 r9) := hx13
    have hl13 := (unhide HK12).lo
    have hg10 : w4.heap.size < w10.heap.size := by have := (unhide HK12).le; omega
    have hbx0 : Bx w13 w10.heap.size (.int .i64 k10) (.bool x10) (.slice r1 r2 r3) (.slice r4 r5 r6) (.slice r7 r8 r9) := hbx.of (set_other _ _ _ _ _ (by omega)).symm
    obtain ⟨z0, z1, z2, z3, z4⟩ := hbx0.cells
    have hne10 : w10.heap.size ≠ w4.heap.size := by omega
    obtain ⟨a14, c14, w14, happ14, hb14, hD14⟩ := qd_kid (ns := ns ++ [nm]) (N := ns.length + 1) hN13 hQ13 (by simp) hL13 hl13 (by simp; omega) hd13 (by omega)
    obtain ⟨u0, u1, u2, u3, u4⟩ := (hN13.bt.kept hb14 (by omega)).cells
    have f14 := (hN13.bt.kept hb14 (by omega)).fr 4
    have hsz13 : (w13.setCell ⟨w4.heap.size, 3, none⟩ (.slice a13 (ns.length + 1) c13)).heap.size = w13.heap.size := by simp
    rw [hsz13] at happ14
    have HD14 := hide hD14
    clear hD14 hb13 hb14 hN13 hQ13 hL13 hx13 hd13 hh13 hbx hbx0 hl13 HK12 hsz13 hsm hsk
    go_wp2_with fail
    have e1 := unhide HEN
    have hnx : nextS B N τ = wantS B (N (wantS B τ8 bNode)).1 bClose := by rw [unhide HNX, e1]
    have HM2 : DirM B N (.ok (p', m')) (wantS B (N (wantS B τ8 bNode)).1 bClose) (ns ++ [nm]) (ks ++ [(N (wantS B τ8 bNode)).2]) k' := by
      have h := unhide HM'
      rw [hnx] at h
      simp only [e1] at h
      exact h
    have hl1 : (ns ++ [nm]).length = ns.length + 1 := by simp
    have hl2 : (ks ++ [(N (wantS B τ8 bNode)).2]).length = ks.length + 1 := by simp
    refine ⟨⟨_, ns ++ [nm], ks ++ [(N (wantS B τ8 bNode)).2], a13, a14, c13, c14, k', ?_, HM2⟩, ?_⟩
    · show QdW _ _ _ _ _ _ _ _ _ _ _ _
      rw [hl1, hl2]
      exact unhide HD14
    · refine unhide HMS _ ?_
      rw [hnx]
      exact (unhide HD14).nw.rst
end Go.Proofs.Ytikamklgelcnhaa
/- writeEntries and writeNode: the walks. -/
namespace Go.Proofs.Ytikamklgelcnhaa
open Go.RowKit
set_option linter.unusedSimpArgs false
/-- What writeNode does. -/
def NodeC (c : Nat) (T : Tr) : Prop := ∀ (lo hi : Nat) (cs : List Value) (w : World) (v : Value) (xs : List UInt8), Lies lo hi w T cs → hi ≤ c → Has c w v xs → xs.length + (nodeB T).length ≤ 10000000 → (nodeB T).length ≤ 960000 →
  Calls Try.prog 45 #[.agg cs.toArray, .func (Fn.func 28) #[] #[.pointer (some ⟨c, 0, none⟩)]] w fun e w' => e = .returned (.tuple #[]) ∧ SkA c w v (xs ++ nodeB T) w'
set_option maxRecDepth 20000 in
set_option maxHeartbeats 4000000 in
theorem writeEntries_any (c : Nat) (k : Int) (x : Bool) (d : ByteArray) (ns : List ByteArray) (ks : List Tr) (ih : ∀ t ∈ ks, NodeC c t) (lo hi : Nat) (cs : List Value) (w : World) (v : Value) (xs : List UInt8) (hL : Lies lo hi w (.mk k x d ns ks) cs) (hhi : hi ≤ c) (hS : Has c w v xs) (hle : ns.length = ks.length) (hNm : ns.length ≤ 100000) (hmax : xs.length + (entsB ns ks).length ≤ 10000000) (hm2 : (entsB ns ks).length ≤ 960000) :
    Calls Try.prog 67 #[.agg cs.toArray, .func (Fn.func 28) #[] #[.pointer (some ⟨c, 0, none⟩)]] w fun e w' => e = .returned (.tuple #[]) ∧ SkA c w v (xs ++ entsB ns ks) w' := by
  have hcl := hS.ctr.lt
  have hown : ∀ g, v.ownBlock = some g → c + 1 ≤ g ∧ g < w.heap.size := fun g hg => owns_lt hS.row g hg
  cases hL with
  | mk _ _ _ _ _ vd vn vk Ks hl hd hn hk hK =>
  obtain ⟨ad, cd, rfl, hcd⟩ := hd.slice
  obtain ⟨an, cn, rfl, hcn⟩ := hn.slice
  obtain ⟨ak, ck, rfl, hck⟩ := hk.slice
  obtain ⟨N, hN⟩ : ∃ N, ns.length = N := ⟨_, rfl⟩
  have hNk : ks.length = N := by omega
  rw [hN] at hn hcn hNm ⊢
  rw [hNk] at hk hck ⊢
  obtain ⟨W0, hW0⟩ : ∃ W0, W0 = w.alloc (.cells #[.int .i64 k, .bool x, .slice ad d.size cd, .slice an N cn, .slice ak N ck] 26) := ⟨_, rfl⟩
  have hb0 : Below w.heap.size w W0 := by rw [hW0]; exact (Below.refl _ _).alloc (Nat.le_refl _) _
  have hs0 : W0.heap.size = w.heap.size + 1 := by rw [hW0]; simp
  have hx0 : Bx W0 w.heap.size (.int .i64 k) (.bool x) (.slice ad d.size cd) (.slice an N cn) (.slice ak N ck) := by rw [hW0]; exact bx_new _ _ _ _ _ _
  have hA0 : At c W0 W0 v v xs := ⟨Gt.of_below v (Below.refl _ _), hS.kept hb0⟩
  have HW0 := hide hW0
  have HG0 : Hid (Gt c w W0 v v) := Gt.of_below v hb0
  have HA0 := hide (And.intro hA0 hx0)
  have HT := hide (And.intro (hn.below hb0 (by omega)) (And.intro (hk.below hb0 (by omega)) (And.intro hl (fun i t c h1 h2 => (hK i t c h1 h2).kept hb0 (by omega)))))
  have HM := hide (And.intro hmax (And.intro hm2 (And.intro hN hNk)))
  have HIH := hide ih
  have HO := hide hown
  clear hW0 hb0 hx0 hA0 hS hd hn hk hl hK hmax hm2 ih hown hN hNk hle
  go_enter Try.func67, Try.ntmps67
  go_wp2_with fail
  rw [← unhide HW0]
  go_loopw [9] (fun vi wr => ∃ (i : Nat) (v' : Value), i ≤ N ∧ vi = .int .i64 (i : Int) ∧ Hid (At c W0 wr v v' (xs ++ entsB (ns.take i) (ks.take i))) ∧ Bx wr w.heap.size (.int .i64 k) (.bool x) (.slice ad d.size cd) (.slice an N cn) (.slice ak N ck)) (fun vi _ => N - (intOf vi).toNat)
  case atStart => exact ⟨0, v, by omega, rfl, by show At _ _ _ _ _ _; rw [List.take_zero, entsB_nil, List.append_nil]; exact (unhide HA0).1, (unhide HA0).2⟩
  case round =>
    obtain ⟨i, v', hiN, rfl, hA, hB⟩ := hrel
    obtain ⟨hmax, hm2, hN, hNk⟩ := unhide HM
    have hsr := (unhide hA).g.size
    by_cases hlt : i < N
    · have hi1 : i < ns.length := by omega
      have hi2 : i < ks.length := by omega
      have htk := entsB_take hi1 hi2
      have hle1 := entsB_le ns ks (i + 1)
      rw [htk] at hle1
      simp only [List.length_append] at hle1
      have hvo : ∀ g, v.ownBlock = some g → g < lo ∨ hi ≤ g := fun g hg => by have := (unhide HO g hg).1; omega
      have hnr := (unhide hA).g.row (unhide HT).1 (by omega) (.inr hhi) hvo
      obtain ⟨g, o, rfl, hcx⟩ := row_strX hnr hN i hlt
      have hgl : g < wr.heap.size := cell_lt hcx
      have hL1 := hide (lits_any c [⟨#[101, 110, 116, 114, 121]⟩, ⟨#[40]⟩, ⟨#[110, 97, 109, 101]⟩, ns.getD i ⟨#[]⟩, ⟨#[110, 111, 100, 101]⟩] W0 wr v v' _ (unhide hA) (by simp) (by
        show _ + (txs [wEntry, wOpen, wName, sB (ns.getD i ⟨#[]⟩), wNode]).length ≤ _
        rw [List.length_append]; omega) (by
        show (txs [wEntry, wOpen, wName, sB (ns.getD i ⟨#[]⟩), wNode]).length ≤ _
        omega))
      obtain ⟨y0, y1, y2, y3, y4⟩ := hB.cells
      have hlB : w.heap.size < wr.heap.size := by omega
      have HTK := hide htk
      have HLE := hide hle1
      have HB := hide hB
      generalize hsi : ns.getD i ⟨#[]⟩ = s at *
      clear htk hle1 hnr hB hsi
      go_wp2_with fail
      refine (unhide hL1).mono ?_
      rintro e w1 ⟨rfl, v1, hA1, hg1⟩
      have hB1 := (unhide hA).box hg1 (fun g hg => (unhide HO g hg).2) (by omega) (by omega) (unhide HB)
      have hs1 := hg1.size
      have hkr := hA1.g.row (unhide HT).2.1 (by omega) (.inr hhi) hvo
      obtain ⟨gk, ok, eak, hgk1, hgk2, hcell⟩ := hkr.at (by omega)
      have hKr : ∀ (i : Nat) (t : Tr) (c' : List Value), ks[i]? = some t → Ks[i]? = some c' → Lies lo hi w1 t c' := fun i t c' h1 h2 => Lies.gt hA1.g ((unhide HT).2.2.2 i t c' h1 h2) hhi (by omega) (fun g hg => by have := (unhide HO g hg).1; omega)
      obtain ⟨k1, x1, b1, b2, b3, b4, b5, b6, b7, b8, b9, hLi, z0, z1, z2, z3, z4⟩ := kid_sl (unhide HT).2.2.1 hcell hKr i hi2
      have hlen0 : (xs ++ entsB (ns.take i) (ks.take i)).length = xs.length + (entsB (ns.take i) (ks.take i)).length := List.length_append
      have HI := hide (unhide HIH ks[i] (List.getElem_mem hi2) lo hi _ w1 v1 _ hLi hhi hA1.h (by
        have := unhide HLE
        rw [List.length_append, hlen0]
        show _ + (txs [wEntry, wOpen, wName, sB s, wNode]).length + _ ≤ _
        omega) (by have := unhide HLE; omega))
      obtain ⟨t0, t1, t2, t3, t4⟩ := hB1.cells
      have HA1 := hide hA1
      have HB1 := hide hB1
      subst eak
      have hgkl : gk < w1.heap.size := by omega
      clear hL1 hg1 hA1 hkr hcell hKr hLi hB1 y0 y1 y2 y3 y4 hcx hA HB
      generalize ks[i] = t at *
      go_wp2_with fail
      refine (unhide HI).mono ?_
      rintro e w2 ⟨rfl, hk2⟩
      obtain ⟨v2, hA2, hg2⟩ := (unhide HA1).step hk2
      have hB2 := (unhide HA1).box hg2 (fun g hg => (unhide HO g hg).2) (by omega) (by omega) (unhide HB1)
      have hL3 := hide (lits_any c [⟨#[41]⟩] W0 w2 v v2 _ hA2 (by simp) (by
        have := unhide HLE
        rw [List.length_append, List.length_append, hlen0]
        show _ + (txs [wEntry, wOpen, wName, sB s, wNode]).length + _ + (txs [wClose]).length ≤ _
        omega) (by show (txs [wClose]).length ≤ _; decide))
      have HA2 := hide (And.intro hA2 hB2)
      clear HI hk2 hA2 hg2 hB2 z0 z1 z2 z3 z4 t0 t1 t2 t3 t4 HB1
      go_wp2_with fail
      refine (unhide hL3).mono ?_
      rintro e w3 ⟨rfl, v3, hA3, hg3⟩
      have hB3 := (unhide HA2).1.box hg3 (fun g hg => (unhide HO g hg).2) (by omega) (by omega) (unhide HA2).2
      have HA3 : Hid (At c W0 w3 v v3 (xs ++ entsB (ns.take (i + 1)) (ks.take (i + 1)))) := by
        show At _ _ _ _ _ _
        rw [unhide HTK]
        have hA3' : At c W0 w3 v v3 (xs ++ entsB (ns.take i) (ks.take i) ++ txs [wEntry, wOpen, wName, sB s, wNode] ++ nodeB t ++ txs [wClose]) := hA3
        simpa only [List.append_assoc] using hA3'
      have HB3 := hide hB3
      clear hL3 hA3 hg3 hB3 HA2 HA1
      go_wp2_with fail
      go_roundw
      case rel => exact ⟨i + 1, v3, by omega, by go_num, unhide HA3, unhide HB3⟩
      case measure => simp [intOf]; try omega
    · obtain rfl : N = i := by omega
      have e1 : ns.take N = ns := List.take_of_length_le (by omega)
      have e2 : ks.take N = ks := List.take_of_length_le (by omega)
      rw [e1, e2] at hA
      have HE : Hid (SkA c w v (xs ++ entsB ns ks) wr) := SkA.trans (unhide HG0) ⟨v', (unhide hA).g, (unhide hA).h⟩
      clear hA e1 e2 hmax hm2
      go_wp2_with fail
      exact bodyPost_end (v := .tuple #[]) (by simp [results, Try.results67, go_sem]) rfl ⟨rfl, unhide HE⟩
set_option maxRecDepth 20000 in
set_option maxHeartbeats 8000000 in
theorem writeNode_any (c : Nat) (T : Tr) : Nice T → wt T ≤ 100000 → NodeC c T := by
  induction T using Tr.ind with
  | h K x d ns ks ih =>
  intro hN hW lo hi cs w v xs hL hhi hS hmax hm2
  have hSm := small_of hW
  have hcl := hS.ctr.lt
  have hown : ∀ g, v.ownBlock = some g → c + 1 ≤ g ∧ g < w.heap.size := fun g hg => owns_lt hS.row g hg
  have HL := hide hL
  obtain ⟨hnk, hkn⟩ : ns.length = ks.length ∧ ∀ t ∈ ks, Nice t := by cases hN with | mk _ _ _ _ _ h1 h2 h3 => exact ⟨h2, h3⟩
  cases hL with
  | mk _ _ _ _ _ vd vn vk Ks hl hd hn hk hK =>
  obtain ⟨ad, cd, rfl, hcd⟩ := hd.slice
  obtain ⟨an, cn, rfl, hcn⟩ := hn.slice
  obtain ⟨ak, ck, rfl, hck⟩ := hk.slice
  obtain ⟨W0, hW0⟩ : ∃ W0, W0 = w.alloc (.cells #[.int .i64 K, .bool x, .slice ad d.size cd, .slice an ns.length cn, .slice ak ks.length ck] 26) := ⟨_, rfl⟩
  have hb0 : Below w.heap.size w W0 := by rw [hW0]; exact (Below.refl _ _).alloc (Nat.le_refl _) _
  have hs0 : W0.heap.size = w.heap.size + 1 := by rw [hW0]; simp
  have hx0 : Bx W0 w.heap.size (.int .i64 K) (.bool x) (.slice ad d.size cd) (.slice an ns.length cn) (.slice ak ks.length ck) := by rw [hW0]; exact bx_new _ _ _ _ _ _
  have hA0 : At c W0 W0 v v xs := ⟨Gt.of_below v (Below.refl _ _), hS.kept hb0⟩
  have HW0 := hide hW0
  have HG0 : Hid (Gt c w W0 v v) := Gt.of_below v hb0
  have HA0 := hide (And.intro hA0 hx0)
  have HD := hide (hd.below hb0 (by omega))
  have HE := hide (fun (W : World) (v' : Value) (ys : List UInt8) (g : Gt c W0 W v v') (h : Has c W v' ys) => writeEntries_any c K x d ns ks (fun t ht => ih t ht (hkn t ht) (hSm.t t ht)) lo hi _ W v' ys (Lies.gt g ((unhide HL).kept hb0 (by omega)) hhi (by omega) (fun g hg => by have := (hown g hg).1; omega)) hhi h hnk (by have := hSm.n; omega))
  have HO := hide hown
  have hvo : ∀ g, v.ownBlock = some g → g < lo ∨ hi ≤ g := fun g hg => by have := (hown g hg).1; omega
  have l1 : (txs [wOpen, wType]).length = 32 := by decide
  have l2 : (txs [wClose]).length = 16 := by decide
  have hWA : (W0.alloc (.cells #[.string ⟨#[40]⟩, .string ⟨#[116, 121, 112, 101]⟩] 9)) = (w.alloc (.cells #[.int .i64 K, .bool x, .slice ad d.size cd, .slice an ns.length cn, .slice ak ks.length ck] 26)).alloc (.cells #[.string ⟨#[40]⟩, .string ⟨#[116, 121, 112, 101]⟩] 9) := by rw [hW0]
  have HL1 := hide (lits_any c [⟨#[40]⟩, ⟨#[116, 121, 112, 101]⟩] W0 W0 v v _ hA0 (by simp) (by
    show _ + (txs [wOpen, wType]).length ≤ _
    rw [nodeB] at hmax
    simp only [List.length_append] at hmax
    omega) (by show (txs [wOpen, wType]).length ≤ _; omega))
  have HM := hide (And.intro hmax hm2)
  clear hN hW hSm hnk hkn hd hn hk hl hK hb0 hx0 hA0 hown ih hS hmax hm2
  rw [show W0.heap.size = w.heap.size + 1 from hs0] at HL1
  go_enter Try.func45, Try.ntmps45
  go_wp2_with fail
  rw [← unhide HW0]
  refine (unhide HL1).mono ?_
  rintro e w1 ⟨rfl, v1, hA, hg⟩
  have HA1 : Hid (At c W0 w1 v v1 (xs ++ txs [wOpen, wType]) ∧ Bx w1 w.heap.size (.int .i64 K) (.bool x) (.slice ad d.size cd) (.slice an ns.length cn) (.slice ak ks.length ck)) := ⟨hA, (unhide HA0).1.box hg (fun g hg => (unhide HO g hg).2) (by omega) (by omega) (unhide HA0).2⟩
  have hs1 := hg.size
  clear HL1 hA hg hW0 hWA HW0
  by_cases hk1 : K = 1
  case pos =>
    subst hk1
    have l3 : (txs [wReg]).length = 16 := by decide
    have l4 : (txs [wCont]).length = 16 := by decide
    have l5 : (txs [wExec, []]).length = 32 := by decide
    cases x
    case true =>
      have hnb : nodeB (.mk 1 true d ns ks) = txs [wOpen, wType] ++ (txs [wReg] ++ txs [wExec, []] ++ txs [wCont] ++ tx (sB d)) ++ txs [wClose] := by rw [nodeB, if_pos rfl]; rfl
      obtain ⟨hmax, hm2⟩ := unhide HM
      rw [hnb] at hmax hm2
      simp only [List.length_append, List.length_nil] at hmax hm2
      have HNB := hide hnb
      clear hnb HM
      obtain ⟨y0, y1, y2, y3, y4⟩ := (unhide HA1).2.cells
      have HX := hide (lits_any c [⟨#[114, 101, 103, 117, 108, 97, 114]⟩] W0 w1 v v1 _ (unhide HA1).1 (by simp) (by
        show _ + (txs [wReg]).length ≤ _
        simp only [List.length_append]
        omega) (by show (txs [wReg]).length ≤ _; omega))
      go_wp2_with fail
      refine (unhide HX).mono ?_
      rintro e w2 ⟨rfl, v2, hA, hg⟩
      have HA2 : Hid (At c W0 w2 v v2 (xs ++ txs [wOpen, wType] ++ txs [wReg]) ∧ Bx w2 w.heap.size (.int .i64 1) (.bool true) (.slice ad d.size cd) (.slice an ns.length cn) (.slice ak ks.length ck)) := ⟨hA, (unhide HA1).1.box hg (fun g hg => (unhide HO g hg).2) (by omega) (by omega) (unhide HA1).2⟩
      have hs2 := hg.size
      clear HX hA hg HA1 y0 y1 y2 y3 y4
      obtain ⟨y0, y1, y2, y3, y4⟩ := (unhide HA2).2.cells
      have HX := hide (lits_any c [⟨#[101, 120, 101, 99, 117, 116, 97, 98, 108, 101]⟩, ⟨#[]⟩] W0 w2 v v2 _ (unhide HA2).1 (by simp) (by
        show _ + (txs [wExec, []]).length ≤ _
        simp only [List.length_append]
        omega) (by show (txs [wExec, []]).length ≤ _; omega))
      go_wp2_with fail
      refine (unhide HX).mono ?_
      rintro e w3 ⟨rfl, v3, hA, hg⟩
      have HA3 : Hid (At c W0 w3 v v3 (xs ++ txs [wOpen, wType] ++ txs [wReg] ++ txs [wExec, []]) ∧ Bx w3 w.heap.size (.int .i64 1) (.bool true) (.slice ad d.size cd) (.slice an ns.length cn) (.slice ak ks.length ck)) := ⟨hA, (unhide HA2).1.box hg (fun g hg => (unhide HO g hg).2) (by omega) (by omega) (unhide HA2).2⟩
      have hs3 := hg.size
      clear HX hA hg HA2 y0 y1 y2 y3 y4
      obtain ⟨y0, y1, y2, y3, y4⟩ := (unhide HA3).2.cells
      have HX := hide (lits_any c [⟨#[99, 111, 110, 116, 101, 110, 116, 115]⟩] W0 w3 v v3 _ (unhide HA3).1 (by simp) (by
        show _ + (txs [wCont]).length ≤ _
        simp only [List.length_append]
        omega) (by show (txs [wCont]).length ≤ _; omega))
      go_wp2_with fail
      refine (unhide HX).mono ?_
      rintro e w4 ⟨rfl, v4, hA, hg⟩
      have HA4 : Hid (At c W0 w4 v v4 (xs ++ txs [wOpen, wType] ++ txs [wReg] ++ txs [wExec, []] ++ txs [wCont]) ∧ Bx w4 w.heap.size (.int .i64 1) (.bool true) (.slice ad d.size cd) (.slice an ns.length cn) (.slice ak ks.length ck)) := ⟨hA, (unhide HA3).1.box hg (fun g hg => (unhide HO g hg).2) (by omega) (by omega) (unhide HA3).2⟩
      have hs4 := hg.size
      clear HX hA hg HA3 y0 y1 y2 y3 y4
      obtain ⟨y0, y1, y2, y3, y4⟩ := (unhide HA4).2.cells
      have HX := hide (writeData_any c v4 _ (sB d) lo hi ad d.size cd w4 (unhide HA4).1.h ((unhide HA4).1.g.row (unhide HD) (by omega) (.inr hhi) hvo) rfl hhi (by simp only [List.length_append]; omega))
      go_wp2_with fail
      refine (unhide HX).mono ?_
      rintro e w5 ⟨rfl, hk⟩
      obtain ⟨v5, hA, hg⟩ := (unhide HA4).1.step hk
      clear hk
      have HA5 : Hid (At c W0 w5 v v5 (xs ++ txs [wOpen, wType] ++ txs [wReg] ++ txs [wExec, []] ++ txs [wCont] ++ tx (sB d)) ∧ Bx w5 w.heap.size (.int .i64 1) (.bool true) (.slice ad d.size cd) (.slice an ns.length cn) (.slice ak ks.length ck)) := ⟨hA, (unhide HA4).1.box hg (fun g hg => (unhide HO g hg).2) (by omega) (by omega) (unhide HA4).2⟩
      have hs5 := hg.size
      clear HX hA hg HA4 y0 y1 y2 y3 y4
      obtain ⟨y0, y1, y2, y3, y4⟩ := (unhide HA5).2.cells
      have HX := hide (lits_any c [⟨#[41]⟩] W0 w5 v v5 _ (unhide HA5).1 (by simp) (by
        show _ + (txs [wClose]).length ≤ _
        simp only [List.length_append]
        omega) (by show (txs [wClose]).length ≤ _; omega))
      go_wp2_with fail
      refine (unhide HX).mono ?_
      rintro e w6 ⟨rfl, v6, hA, hg⟩
      have HA6 : Hid (At c W0 w6 v v6 (xs ++ txs [wOpen, wType] ++ txs [wReg] ++ txs [wExec, []] ++ txs [wCont] ++ tx (sB d) ++ txs [wClose]) ∧ Bx w6 w.heap.size (.int .i64 1) (.bool true) (.slice ad d.size cd) (.slice an ns.length cn) (.slice ak ks.length ck)) := ⟨hA, (unhide HA5).1.box hg (fun g hg => (unhide HO g hg).2) (by omega) (by omega) (unhide HA5).2⟩
      have hs6 := hg.size
      clear HX hA hg HA5 y0 y1 y2 y3 y4
      have HZ : Hid (SkA c w v (xs ++ nodeB (.mk 1 true d ns ks)) w6) := by
        have h := SkA.trans (unhide HG0) ⟨v6, (unhide HA6).1.g, (unhide HA6).1.h⟩
        show SkA _ _ _ _ _
        rw [unhide HNB]
        simpa only [List.append_assoc, List.nil_append, List.append_nil] using h
      clear HA6
      go_wp2_with fail
      exact bodyPost_end (v := .tuple #[]) (by simp [results, Try.results45, go_sem]) rfl ⟨rfl, unhide HZ⟩
    case false =>
      have hnb : nodeB (.mk 1 false d ns ks) = txs [wOpen, wType] ++ (txs [wReg] ++ [] ++ txs [wCont] ++ tx (sB d)) ++ txs [wClose] := by rw [nodeB, if_pos rfl]; rfl
      obtain ⟨hmax, hm2⟩ := unhide HM
      rw [hnb] at hmax hm2
      simp only [List.length_append, List.length_nil] at hmax hm2
      have HNB := hide hnb
      clear hnb HM
      obtain ⟨y0, y1, y2, y3, y4⟩ := (unhide HA1).2.cells
      have HX := hide (lits_any c [⟨#[114, 101, 103, 117, 108, 97, 114]⟩] W0 w1 v v1 _ (unhide HA1).1 (by simp) (by
        show _ + (txs [wReg]).length ≤ _
        simp only [List.length_append]
        omega) (by show (txs [wReg]).length ≤ _; omega))
      go_wp2_with fail
      refine (unhide HX).mono ?_
      rintro e w2 ⟨rfl, v2, hA, hg⟩
      have HA2 : Hid (At c W0 w2 v v2 (xs ++ txs [wOpen, wType] ++ txs [wReg]) ∧ Bx w2 w.heap.size (.int .i64 1) (.bool false) (.slice ad d.size cd) (.slice an ns.length cn) (.slice ak ks.length ck)) := ⟨hA, (unhide HA1).1.box hg (fun g hg => (unhide HO g hg).2) (by omega) (by omega) (unhide HA1).2⟩
      have hs2 := hg.size
      clear HX hA hg HA1 y0 y1 y2 y3 y4
      obtain ⟨y0, y1, y2, y3, y4⟩ := (unhide HA2).2.cells
      have HX := hide (lits_any c [⟨#[99, 111, 110, 116, 101, 110, 116, 115]⟩] W0 w2 v v2 _ (unhide HA2).1 (by simp) (by
        show _ + (txs [wCont]).length ≤ _
        simp only [List.length_append]
        omega) (by show (txs [wCont]).length ≤ _; omega))
      go_wp2_with fail
      refine (unhide HX).mono ?_
      rintro e w3 ⟨rfl, v3, hA, hg⟩
      have HA3 : Hid (At c W0 w3 v v3 (xs ++ txs [wOpen, wType] ++ txs [wReg] ++ txs [wCont]) ∧ Bx w3 w.heap.size (.int .i64 1) (.bool false) (.slice ad d.size cd) (.slice an ns.length cn) (.slice ak ks.length ck)) := ⟨hA, (unhide HA2).1.box hg (fun g hg => (unhide HO g hg).2) (by omega) (by omega) (unhide HA2).2⟩
      have hs3 := hg.size
      clear HX hA hg HA2 y0 y1 y2 y3 y4
      obtain ⟨y0, y1, y2, y3, y4⟩ := (unhide HA3).2.cells
      have HX := hide (writeData_any c v3 _ (sB d) lo hi ad d.size cd w3 (unhide HA3).1.h ((unhide HA3).1.g.row (unhide HD) (by omega) (.inr hhi) hvo) rfl hhi (by simp only [List.length_append]; omega))
      go_wp2_with fail
      refine (unhide HX).mono ?_
      rintro e w4 ⟨rfl, hk⟩
      obtain ⟨v4, hA, hg⟩ := (unhide HA3).1.step hk
      clear hk
      have HA4 : Hid (At c W0 w4 v v4 (xs ++ txs [wOpen, wType] ++ txs [wReg] ++ txs [wCont] ++ tx (sB d)) ∧ Bx w4 w.heap.size (.int .i64 1) (.bool false) (.slice ad d.size cd) (.slice an ns.length cn) (.slice ak ks.length ck)) := ⟨hA, (unhide HA3).1.box hg (fun g hg => (unhide HO g hg).2) (by omega) (by omega) (unhide HA3).2⟩
      have hs4 := hg.size
      clear HX hA hg HA3 y0 y1 y2 y3 y4
      obtain ⟨y0, y1, y2, y3, y4⟩ := (unhide HA4).2.cells
      have HX := hide (lits_any c [⟨#[41]⟩] W0 w4 v v4 _ (unhide HA4).1 (by simp) (by
        show _ + (txs [wClose]).length ≤ _
        simp only [List.length_append]
        omega) (by show (txs [wClose]).length ≤ _; omega))
      go_wp2_with fail
      refine (unhide HX).mono ?_
      rintro e w5 ⟨rfl, v5, hA, hg⟩
      have HA5 : Hid (At c W0 w5 v v5 (xs ++ txs [wOpen, wType] ++ txs [wReg] ++ txs [wCont] ++ tx (sB d) ++ txs [wClose]) ∧ Bx w5 w.heap.size (.int .i64 1) (.bool false) (.slice ad d.size cd) (.slice an ns.length cn) (.slice ak ks.length ck)) := ⟨hA, (unhide HA4).1.box hg (fun g hg => (unhide HO g hg).2) (by omega) (by omega) (unhide HA4).2⟩
      have hs5 := hg.size
      clear HX hA hg HA4 y0 y1 y2 y3 y4
      have HZ : Hid (SkA c w v (xs ++ nodeB (.mk 1 false d ns ks)) w5) := by
        have h := SkA.trans (unhide HG0) ⟨v5, (unhide HA5).1.g, (unhide HA5).1.h⟩
        show SkA _ _ _ _ _
        rw [unhide HNB]
        simpa only [List.append_assoc, List.nil_append, List.append_nil] using h
      clear HA5
      go_wp2_with fail
      exact bodyPost_end (v := .tuple #[]) (by simp [results, Try.results45, go_sem]) rfl ⟨rfl, unhide HZ⟩
  have e1 : (K == 1) = false := by simpa using hk1
  by_cases hk3 : K = 3
  case pos =>
    subst hk3
    have l3 : (txs [wSym, wTarg]).length = 32 := by decide
    have hnb : nodeB (.mk 3 x d ns ks) = txs [wOpen, wType] ++ (txs [wSym, wTarg] ++ tx (sB d)) ++ txs [wClose] := by rw [nodeB, if_neg (by decide), if_pos rfl]
    obtain ⟨hmax, hm2⟩ := unhide HM
    rw [hnb] at hmax hm2
    simp only [List.length_append, List.length_nil] at hmax hm2
    have HNB := hide hnb
    clear hnb HM
    obtain ⟨y0, y1, y2, y3, y4⟩ := (unhide HA1).2.cells
    have HX := hide (lits_any c [⟨#[115, 121, 109, 108, 105, 110, 107]⟩, ⟨#[116, 97, 114, 103, 101, 116]⟩] W0 w1 v v1 _ (unhide HA1).1 (by simp) (by
      show _ + (txs [wSym, wTarg]).length ≤ _
      simp only [List.length_append]
      omega) (by show (txs [wSym, wTarg]).length ≤ _; omega))
    go_wp2_with fail
    refine (unhide HX).mono ?_
    rintro e w2 ⟨rfl, v2, hA, hg⟩
    have HA2 : Hid (At c W0 w2 v v2 (xs ++ txs [wOpen, wType] ++ txs [wSym, wTarg]) ∧ Bx w2 w.heap.size (.int .i64 3) (.bool x) (.slice ad d.size cd) (.slice an ns.length cn) (.slice ak ks.length ck)) := ⟨hA, (unhide HA1).1.box hg (fun g hg => (unhide HO g hg).2) (by omega) (by omega) (unhide HA1).2⟩
    have hs2 := hg.size
    clear HX hA hg HA1 y0 y1 y2 y3 y4
    obtain ⟨y0, y1, y2, y3, y4⟩ := (unhide HA2).2.cells
    have HX := hide (writeData_any c v2 _ (sB d) lo hi ad d.size cd w2 (unhide HA2).1.h ((unhide HA2).1.g.row (unhide HD) (by omega) (.inr hhi) hvo) rfl hhi (by simp only [List.length_append]; omega))
    go_wp2_with fail
    refine (unhide HX).mono ?_
    rintro e w3 ⟨rfl, hk⟩
    obtain ⟨v3, hA, hg⟩ := (unhide HA2).1.step hk
    clear hk
    have HA3 : Hid (At c W0 w3 v v3 (xs ++ txs [wOpen, wType] ++ txs [wSym, wTarg] ++ tx (sB d)) ∧ Bx w3 w.heap.size (.int .i64 3) (.bool x) (.slice ad d.size cd) (.slice an ns.length cn) (.slice ak ks.length ck)) := ⟨hA, (unhide HA2).1.box hg (fun g hg => (unhide HO g hg).2) (by omega) (by omega) (unhide HA2).2⟩
    have hs3 := hg.size
    clear HX hA hg HA2 y0 y1 y2 y3 y4
    obtain ⟨y0, y1, y2, y3, y4⟩ := (unhide HA3).2.cells
    have HX := hide (lits_any c [⟨#[41]⟩] W0 w3 v v3 _ (unhide HA3).1 (by simp) (by
      show _ + (txs [wClose]).length ≤ _
      simp only [List.length_append]
      omega) (by show (txs [wClose]).length ≤ _; omega))
    go_wp2_with fail
    refine (unhide HX).mono ?_
    rintro e w4 ⟨rfl, v4, hA, hg⟩
    have HA4 : Hid (At c W0 w4 v v4 (xs ++ txs [wOpen, wType] ++ txs [wSym, wTarg] ++ tx (sB d) ++ txs [wClose]) ∧ Bx w4 w.heap.size (.int .i64 3) (.bool x) (.slice ad d.size cd) (.slice an ns.length cn) (.slice ak ks.length ck)) := ⟨hA, (unhide HA3).1.box hg (fun g hg => (unhide HO g hg).2) (by omega) (by omega) (unhide HA3).2⟩
    have hs4 := hg.size
    clear HX hA hg HA3 y0 y1 y2 y3 y4
    have HZ : Hid (SkA c w v (xs ++ nodeB (.mk 3 x d ns ks)) w4) := by
      have h := SkA.trans (unhide HG0) ⟨v4, (unhide HA4).1.g, (unhide HA4).1.h⟩
      show SkA _ _ _ _ _
      rw [unhide HNB]
      simpa only [List.append_assoc, List.nil_append, List.append_nil] using h
    clear HA4
    go_wp2_with fail
    exact bodyPost_end (v := .tuple #[]) (by simp [results, Try.results45, go_sem]) rfl ⟨rfl, unhide HZ⟩
  have e3 : (K == 3) = false := by simpa using hk3
  by_cases hk2 : K = 2
  case pos =>
    subst hk2
    have l3 : (txs [wDir]).length = 24 := by decide
    have hnb : nodeB (.mk 2 x d ns ks) = txs [wOpen, wType] ++ (txs [wDir] ++ entsB ns ks) ++ txs [wClose] := by rw [nodeB, if_neg (by decide), if_neg (by decide), if_pos rfl]
    obtain ⟨hmax, hm2⟩ := unhide HM
    rw [hnb] at hmax hm2
    simp only [List.length_append, List.length_nil] at hmax hm2
    have HNB := hide hnb
    clear hnb HM
    obtain ⟨y0, y1, y2, y3, y4⟩ := (unhide HA1).2.cells
    have HX := hide (lits_any c [⟨#[100, 105, 114, 101, 99, 116, 111, 114, 121]⟩] W0 w1 v v1 _ (unhide HA1).1 (by simp) (by
      show _ + (txs [wDir]).length ≤ _
      simp only [List.length_append]
      omega) (by show (txs [wDir]).length ≤ _; omega))
    go_wp2_with fail
    refine (unhide HX).mono ?_
    rintro e w2 ⟨rfl, v2, hA, hg⟩
    have HA2 : Hid (At c W0 w2 v v2 (xs ++ txs [wOpen, wType] ++ txs [wDir]) ∧ Bx w2 w.heap.size (.int .i64 2) (.bool x) (.slice ad d.size cd) (.slice an ns.length cn) (.slice ak ks.length ck)) := ⟨hA, (unhide HA1).1.box hg (fun g hg => (unhide HO g hg).2) (by omega) (by omega) (unhide HA1).2⟩
    have hs2 := hg.size
    clear HX hA hg HA1 y0 y1 y2 y3 y4
    obtain ⟨y0, y1, y2, y3, y4⟩ := (unhide HA2).2.cells
    have HX := hide (unhide HE w2 v2 _ (unhide HA2).1.g (unhide HA2).1.h (by simp only [List.length_append]; omega) (by omega))
    go_wp2_with fail
    refine (unhide HX).mono ?_
    rintro e w3 ⟨rfl, hk⟩
    obtain ⟨v3, hA, hg⟩ := (unhide HA2).1.step hk
    clear hk
    have HA3 : Hid (At c W0 w3 v v3 (xs ++ txs [wOpen, wType] ++ txs [wDir] ++ entsB ns ks) ∧ Bx w3 w.heap.size (.int .i64 2) (.bool x) (.slice ad d.size cd) (.slice an ns.length cn) (.slice ak ks.length ck)) := ⟨hA, (unhide HA2).1.box hg (fun g hg => (unhide HO g hg).2) (by omega) (by omega) (unhide HA2).2⟩
    have hs3 := hg.size
    clear HX hA hg HA2 y0 y1 y2 y3 y4
    obtain ⟨y0, y1, y2, y3, y4⟩ := (unhide HA3).2.cells
    have HX := hide (lits_any c [⟨#[41]⟩] W0 w3 v v3 _ (unhide HA3).1 (by simp) (by
      show _ + (txs [wClose]).length ≤ _
      simp only [List.length_append]
      omega) (by show (txs [wClose]).length ≤ _; omega))
    go_wp2_with fail
    refine (unhide HX).mono ?_
    rintro e w4 ⟨rfl, v4, hA, hg⟩
    have HA4 : Hid (At c W0 w4 v v4 (xs ++ txs [wOpen, wType] ++ txs [wDir] ++ entsB ns ks ++ txs [wClose]) ∧ Bx w4 w.heap.size (.int .i64 2) (.bool x) (.slice ad d.size cd) (.slice an ns.length cn) (.slice ak ks.length ck)) := ⟨hA, (unhide HA3).1.box hg (fun g hg => (unhide HO g hg).2) (by omega) (by omega) (unhide HA3).2⟩
    have hs4 := hg.size
    clear HX hA hg HA3 y0 y1 y2 y3 y4
    have HZ : Hid (SkA c w v (xs ++ nodeB (.mk 2 x d ns ks)) w4) := by
      have h := SkA.trans (unhide HG0) ⟨v4, (unhide HA4).1.g, (unhide HA4).1.h⟩
      show SkA _ _ _ _ _
      rw [unhide HNB]
      simpa only [List.append_assoc, List.nil_append, List.append_nil] using h
    clear HA4
    go_wp2_with fail
    exact bodyPost_end (v := .tuple #[]) (by simp [results, Try.results45, go_sem]) rfl ⟨rfl, unhide HZ⟩
  have e2 : (K == 2) = false := by simpa using hk2
  have hnb : nodeB (.mk K x d ns ks) = txs [wOpen, wType] ++ [] ++ txs [wClose] := by rw [nodeB, if_neg hk1, if_neg hk3, if_neg hk2]
  obtain ⟨hmax, hm2⟩ := unhide HM
  rw [hnb] at hmax hm2
  simp only [List.length_append, List.length_nil] at hmax hm2
  have HNB := hide hnb
  clear hnb HM
  clear hk1 hk2 hk3
  obtain ⟨y0, y1, y2, y3, y4⟩ := (unhide HA1).2.cells
  have HX := hide (lits_any c [⟨#[41]⟩] W0 w1 v v1 _ (unhide HA1).1 (by simp) (by
    show _ + (txs [wClose]).length ≤ _
    simp only [List.length_append]
    omega) (by show (txs [wClose]).length ≤ _; omega))
  go_wp2_with fail
  refine (unhide HX).mono ?_
  rintro e w2 ⟨rfl, v2, hA, hg⟩
  have HA2 : Hid (At c W0 w2 v v2 (xs ++ txs [wOpen, wType] ++ txs [wClose]) ∧ Bx w2 w.heap.size (.int .i64 K) (.bool x) (.slice ad d.size cd) (.slice an ns.length cn) (.slice ak ks.length ck)) := ⟨hA, (unhide HA1).1.box hg (fun g hg => (unhide HO g hg).2) (by omega) (by omega) (unhide HA1).2⟩
  have hs2 := hg.size
  clear HX hA hg HA1 y0 y1 y2 y3 y4
  have HZ : Hid (SkA c w v (xs ++ nodeB (.mk K x d ns ks)) w2) := by
    have h := SkA.trans (unhide HG0) ⟨v2, (unhide HA2).1.g, (unhide HA2).1.h⟩
    show SkA _ _ _ _ _
    rw [unhide HNB]
    simpa only [List.append_assoc, List.nil_append, List.append_nil] using h
  clear HA2
  go_wp2_with fail
  exact bodyPost_end (v := .tuple #[]) (by simp [results, Try.results45, go_sem]) rfl ⟨rfl, unhide HZ⟩
end Go.Proofs.Ytikamklgelcnhaa
