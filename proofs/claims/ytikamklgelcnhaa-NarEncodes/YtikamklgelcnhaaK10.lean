import Derived.Test.YtikamklgelcnhaaK9
import Derived.Test.YtikamklgelcnhaaK8
import Derived.Test.YtikamklgelcnhaaK5
/- The reader's dir, from its node one deeper. -/
namespace Go.Proofs.Ytikamklgelcnhaa
open Go.RowKit
set_option linter.unusedSimpArgs false
/-- What stands at the head of dir's loop, as mathematics. -/
structure DirM (B : List UInt8) (N : RS → RS × Tr) (σ τ : RS) (ns : List ByteArray) (ks : List Tr) (k : Nat) : Prop where
  len : ns.length = ks.length
  few : ∀ p m, τ = .ok (p, m) → ns.length * 8 ≤ p
  fuel : ∀ p m, τ = .ok (p, m) → B.length + 1 ≤ k + p
  one : 1 ≤ k
  spec : dirS B N k τ ns ks = dirS B N (B.length + 1) σ [] []
  small : ns.length ≤ 600000
/-- The state behind an entry. -/
def nextS (B : List UInt8) (N : RS → RS × Tr) (τ : RS) : RS := wantsS B (N (entS B (eitherS B τ bEntry bClose).1).1).1 [bClose]
theorem next_ok {B : List UInt8} {N : RS → RS × Tr} {τ : RS} (hN : ∀ σ, Le σ (N σ).1) (hE : (eitherS B τ bEntry bClose).2 = true) : ∃ p m, τ = .ok (p, m) ∧ p + 8 ≤ B.length ∧ ∀ p' m', nextS B N τ = .ok (p', m') → p + 8 ≤ p' := by
  obtain ⟨p, m, p', h1, h2, h3, h4⟩ := either_ok hE (by decide)
  refine ⟨p, m, h1, by omega, fun p'' m'' he => ?_⟩
  have hl := ((entS_le B (eitherS B τ bEntry bClose).1).trans (hN _)).trans (wantsS_le B [bClose] _)
  unfold nextS at he
  rw [he, h4] at hl
  have := hl.1
  omega
theorem DirM.step {B : List UInt8} {N : RS → RS × Tr} {σ τ : RS} {ns : List ByteArray} {ks : List Tr} {k : Nat} (h : DirM B N σ τ ns ks (k + 1)) (hN : ∀ σ, Le σ (N σ).1) (hB : B.length ≤ 4000000) (hE : (eitherS B τ bEntry bClose).2 = true) : DirM B N σ (nextS B N τ) (ns ++ [(entS B (eitherS B τ bEntry bClose).1).2]) (ks ++ [(N (entS B (eitherS B τ bEntry bClose).1).1).2]) k := by
  obtain ⟨p, m, h1, h2, h3⟩ := next_ok hN hE
  have h4 := h.few p m h1
  have h5 := h.fuel p m h1
  refine ⟨by simp [h.len], fun p' m' he => ?_, fun p' m' he => ?_, by omega, ?_, by simp; omega⟩
  · have := h3 p' m' he; simp; omega
  · have := h3 p' m' he; omega
  · rw [← h.spec, dirS, hE, if_pos rfl]; rfl
theorem meas_step {lo hi r : Nat} {b : Value} {B : List UInt8} {N : RS → RS × Tr} {w w' : World} {τ : RS} (hN : ∀ σ, Le σ (N σ).1) (hE : (eitherS B τ bEntry bClose).2 = true) (h : Rst lo hi r b B w τ) (h' : Rst lo hi r b B w' (nextS B N τ)) : rmeas B r w' < rmeas B r w := by
  obtain ⟨p, m, rfl, h2, h3⟩ := next_ok hN hE
  rw [rmeas_ok h]
  cases hn : nextS B N (.ok (p, m)) with
  | error E => rw [hn] at h'; rw [rmeas_err h']; omega
  | ok q =>
    obtain ⟨p', m'⟩ := q
    rw [hn] at h'
    have := h3 p' m' hn
    rw [rmeas_ok h']; omega
theorem sole_drew' {g : Nat} {w w1 : World} (h : Sole g w.drew w1) : Sole g w w1 := ⟨h.os, h.tape, h.output, h.size, h.block⟩
set_option maxRecDepth 20000 in
set_option maxHeartbeats 4000000 in
theorem dir_step (lo hi r : Nat) (b : Value) (B : List UInt8) (deep : Nat) (hdeep : deep ≤ 1000) (hB : B.length ≤ 4000000) (N : RS → RS × Tr) (hNle : ∀ σ, Le σ (N σ).1)
    (HN : ∀ (w : World) (σ : RS), Rst lo hi r b B w σ → Calls Try.prog 59 #[.pointer (some ⟨r, 0, none⟩), .int .i64 ((deep : Int) + 1)] w (NdA lo hi r b B w (N σ).1 (N σ).2))
    (w : World) (σ : RS) (h : Rst lo hi r b B w σ) :
    Calls Try.prog 83 #[.pointer (some ⟨r, 0, none⟩), .int .i64 (deep : Int)] w (NdA lo hi r b B w (dirS B N (B.length + 1) σ [] []).1 (.mk 2 false ⟨#[]⟩ (dirS B N (B.length + 1) σ [] []).2.1 (dirS B N (B.length + 1) σ [] []).2.2)) := by
  obtain ⟨Q, hQ⟩ : ∃ Q, Q = NdA lo hi r b B w (dirS B N (B.length + 1) σ [] []).1 (.mk 2 false ⟨#[]⟩ (dirS B N (B.length + 1) σ [] []).2.1 (dirS B N (B.length + 1) σ [] []).2.2) := ⟨_, rfl⟩
  rw [← hQ]
  have HQ := hide hQ
  obtain ⟨W0, hW0⟩ : ∃ W0, W0 = (w.alloc (.cells #[.int .i64 0, .bool false, .slice none 0 0, .slice none 0 0, .slice none 0 0] 26)).alloc (.cells #[.int .i64 2, .bool false, .slice none 0 0, .slice none 0 0, .slice none 0 0] 26) := ⟨_, rfl⟩
  have hb0 : Below w.heap.size w W0 := by rw [hW0]; exact ((Below.refl _ _).alloc (Nat.le_refl _) _).alloc (by simp) _
  have hs0 : W0.heap.size = w.heap.size + 2 := by rw [hW0]; simp
  have hx0 : Bx W0 w.heap.size (.int .i64 0) (.bool false) (.slice none 0 0) (.slice none 0 0) (.slice none 0 0) := by
    rw [hW0]; exact (bx_new _ _ _ _ _ _).kept ((Below.refl (w.heap.size + 1) _).alloc (by simp) _) (by omega)
  have hx1 : Bx W0 (w.heap.size + 1) (.int .i64 2) (.bool false) (.slice none 0 0) (.slice none 0 0) (.slice none 0 0) := by
    rw [hW0]
    have := bx_new (w.alloc (.cells #[.int .i64 0, .bool false, .slice none 0 0, .slice none 0 0, .slice none 0 0] 26)) (.int .i64 2) (.bool false) (.slice none 0 0) (.slice none 0 0) (.slice none 0 0)
    simpa using this
  have hlt := h.lt
  have hhi := h.hi
  have HW : Hid (DirW (fun v d => Tv lo hi b v B d) lo hi r b B w W0 σ [] [] (.slice none 0 0) (.slice none 0 0) 0 0) := ⟨Sole.of_below hb0, h.kept hb0 hlt hhi, hx0, hx1, rl_nil _ _ _, by omega, hlt, hhi⟩
  have HM : Hid (DirM B N σ σ [] [] (B.length + 1)) := ⟨rfl, fun _ _ _ => by simp, fun p m _ => by omega, by omega, rfl, by simp⟩
  have HNN := hide HN
  have HNle := hide hNle
  have HW0 := hide hW0
  clear h hb0 hs0 hx0 hx1 hQ HN hNle hW0
  go_enter Try.func83, Try.ntmps83
  go_wp2_with fail
  rw [← unhide HW0]
  go_loopw [7] (fun _ wr => ∃ (τ : RS) (ns : List ByteArray) (ks : List Tr) (a1 a2 : Option Addr) (c1 c2 k : Nat), Hid (DirW (fun v d => Tv lo hi b v B d) lo hi r b B w wr τ ns ks (.slice a1 ns.length c1) (.slice a2 ks.length c2) ns.length ks.length) ∧ Hid (DirM B N σ τ ns ks k)) (fun _ wr => rmeas B r wr)
  case atStart => exact ⟨σ, [], [], none, none, 0, 0, B.length + 1, unhide HW, unhide HM⟩
  case round =>
    clear HW HM
    obtain ⟨τ, ns, ks, a1, a2, c1, c2, k, hW, hM⟩ := hrel
    have H1 := hide (either_any lo hi r b B wr τ bEntry bClose (unhide hW).rst)
    go_wp2_with fail
    refine (unhide H1).mono ?_
    rintro x w1 ⟨rfl, hs1, hR1⟩
    have hW1 := hide ((unhide hW).call hs1 hR1)
    clear hs1 hR1 H1
    obtain ⟨k', rfl⟩ : ∃ k', k = k' + 1 := ⟨k - 1, by have := (unhide hM).one; omega⟩
    cases hE : (eitherS B τ bEntry bClose).2 with
    | false =>
      obtain ⟨y0, y1, y2, y3, y4⟩ := (unhide hW1).bt.cells
      obtain ⟨x0, x1, x2, x3, x4⟩ := (unhide hW1).br.cells
      have g0 := (unhide hW1).br.fr 0
      have g1 := (unhide hW1).br.fr 1
      have g2 := (unhide hW1).br.fr 2
      have g3 := (unhide hW1).br.fr 3
      have g4 := (unhide hW1).br.fr 4
      have HE : Hid (Q (.returned (.agg #[.int .i64 2, .bool false, .slice none 0 0, .slice a1 ns.length c1, .slice a2 ks.length c2])) (set5 w1 w.heap.size (.int .i64 2) (.bool false) (.slice none 0 0) (.slice a1 ns.length c1) (.slice a2 ks.length c2))) := by
        have hsp := (unhide hM).spec
        rw [dirS, hE, if_neg (by decide)] at hsp
        show Q _ _
        rw [unhide HQ, ← hsp]
        obtain ⟨h1, h2, h3, h4, h5, h6, h7, h8⟩ := unhide hW1
        have hbz : Below w.heap.size w1 (set5 w1 w.heap.size (.int .i64 2) (.bool false) (.slice none 0 0) (.slice a1 ns.length c1) (.slice a2 ks.length c2)) := below_set5 (Below.refl _ _) (Nat.le_refl _) _ _ _ _ _
        refine ⟨_, rfl, sole_set5 h1 (Nat.le_refl _) _ _ _ _ _, h2.kept hbz h7 h8, ?_⟩
        have h9 := rl_end (k := 2) (x := false) (d := ⟨#[]⟩) (a := none) (c := 0) h5 (tv_nil lo hi b B)
        exact Rdn.mono (h9.same (fun k hk _ => set5_other _ _ _ _ _ _ _ _ (by omega))) (by omega) (by simp)
      clear hW hM hW1
      go_wp2_with fail
      exact bodyPost_ret (v := .agg #[.int .i64 2, .bool false, .slice none 0 0, .slice a1 ns.length c1, .slice a2 ks.length c2]) (by simp [results, Try.results83, go_sem, x0, x1, x2, x3, x4]) rfl (unhide HE)
    | true =>
      have hsm := (unhide hM).small
      have hsk : ks.length ≤ 600000 := by rw [← (unhide hM).len]; exact hsm
      have HM' := hide ((unhide hM).step (unhide HNle) hB hE)
      have HMS := hide (fun (w' : World) (h' : Rst lo hi r b B w' (nextS B N τ)) => meas_step (unhide HNle) hE (unhide hW).rst h')
      have HNX : Hid (nextS B N τ = wantsS B (N (entS B (eitherS B τ bEntry bClose).1).1).1 [bClose] ∧ entS B (eitherS B τ bEntry bClose).1 = (wantsS B (txtS B (wantsS B (eitherS B τ bEntry bClose).1 [bOpen, bName])).1 [bNode], (txtS B (wantsS B (eitherS B τ bEntry bClose).1 [bOpen, bName])).2)) := ⟨rfl, rfl⟩
      have H2 := hide (wants_any lo hi r b B w1 _ [bOpen, bName] (unhide hW1).rst (by decide))
      clear hW hM
      generalize entS B (eitherS B τ bEntry bClose).1 = En at *
      generalize nextS B N τ = nx at *
      generalize (eitherS B τ bEntry bClose).1 = τ1 at *
      generalize hS1 : wantsS B τ1 [bOpen, bName] = τ2 at *
      clear hS1
      go_wp2_with fail
      refine (unhide H2).mono ?_
      rintro x w2 ⟨rfl, hs2, hR2⟩
      have hW2 := hide ((unhide hW1).call hs2 hR2)
      clear hs2 hR2 H2 hW1
      have HT := hide (text_rst lo hi r b B w2.drew τ2 (unhide hW2).drew.rst)
      obtain ⟨x0, x1, x2, x3, x4⟩ := (unhide hW2).bt.cells
      have hz2 := (unhide hW2).sz
      have hl2 : w.heap.size + 1 < w2.heap.size := by omega
      obtain ⟨T, hT⟩ : ∃ T, T = txtS B τ2 := ⟨_, rfl⟩
      unfold TxR at HT
      rw [← hT] at HT
      have HNX' := unhide HNX
      rw [← hT] at HNX'
      have HNY := hide HNX'
      clear HNX HNX' hT
      obtain ⟨τ3, s⟩ := T
      go_wp2_with fail
      go_region_law (go_simp; refine (unhide HT).mono ?_; rintro e w7 ⟨a7, c7, rfl, hs7, hR7, hv7⟩; have hcv := tv_conv hR7 hv7; have hW7 := hide ((unhide hW2).drew.call hs7 hR7); have hext := (unhide hW7).rl.ext [s] []; rw [List.append_nil] at hext; obtain ⟨a8, c8, w8, happ8, hRl8, hb8, hz8⟩ := rl_name s hext (Sole.refl r w7) (by omega) (by simp) (by omega) (unhide hW7).sz; obtain ⟨x0', x1', x2', x3', x4'⟩ := (unhide hW7).bt.cells; obtain ⟨q0, q1, q2, q3, q4⟩ := ((unhide hW7).bt.kept hb8 (by omega)).cells; have f8 := ((unhide hW7).bt.kept hb8 (by omega)).fr 3; have hl7 : w.heap.size + 1 < w7.heap.size := Nat.lt_of_lt_of_le (by omega) (unhide hW7).sz)
      all_goals
        have hW9 := hide ((unhide hW7).name hb8 hz8 hRl8)
        clear happ8 hRl8 hb8 hz8 x0' x1' x2' x3' x4' q0 q1 q2 q3 q4 f8 hl7 hext hcv hv7 hs7 hR7 hW7 x0 x1 x2 x3 x4 hz2 hl2 HT hW2
        generalize w8.setCell ⟨w.heap.size + 1, 3, none⟩ (.slice a8 (ns.length + 1) c8) = w9 at *
        have H5 := hide (wants_any lo hi r b B w9 τ3 [bNode] (unhide hW9).rst (by decide))
        generalize hS5 : wantsS B τ3 [bNode] = τ5 at *
        clear hS5
        go_wp2_with fail
        refine (unhide H5).mono ?_
        rintro x w10 ⟨rfl, hs10, hR10⟩
        have hW10 := hide ((unhide hW9).call hs10 hR10)
        clear hs10 hR10 H5 hW9
        have HC := hide (unhide HNN w10.drew τ5 (unhide hW10).drew.rst)
        have hwr : IntKind.i64.wrap ((deep : Int) + 1) = (deep : Int) + 1 := IntWalk.i64_in _ (by omega)
        obtain ⟨x0, x1, x2, x3, x4⟩ := (unhide hW10).bt.cells
        have hz10 := (unhide hW10).sz
        have hl10 : w.heap.size + 1 < w10.heap.size := by omega
        have HN5 : Hid (∃ R, R = N τ5) := ⟨_, rfl⟩
        obtain ⟨R, hR⟩ := unhide HN5
        rw [← hR] at HC
        have HRR := hide hR
        clear hR HN5
        obtain ⟨τ6, t⟩ := R
        go_wp2_with fail
        go_region_law (go_simp; refine (unhide HC).mono ?_; rintro e w11 ⟨cs, rfl, hs11, hR11, hRd⟩; obtain ⟨k11, x11, r1, r2, r3, r4, r5, r6, r7, r8, r9, rfl⟩ := hRd.form; have hW11 := hide ((unhide hW10).drew.call hs11 hR11); have hext := Rl.ext (ns := ns ++ [s]) (ks := ks) (by simpa using (unhide hW10).drew.rl) [] [t]; rw [List.append_nil] at hext; obtain ⟨a12, c12, w12, happ12, hRl12, hb12, hz12⟩ := rl_kid hext hs11 (by omega) hRd (by simp) (by omega) (unhide hW10).drew.sz; obtain ⟨x0', x1', x2', x3', x4'⟩ := (unhide hW11).bt.cells; obtain ⟨q0, q1, q2, q3, q4⟩ := ((unhide hW11).bt.kept hb12 (by omega)).cells; have f12 := ((unhide hW11).bt.kept hb12 (by omega)).fr 4; have hl11 : w.heap.size + 1 < w11.heap.size := Nat.lt_of_lt_of_le (by omega) (unhide hW11).sz)
        all_goals
          rw [show (ns ++ [s]).length = ns.length + 1 by simp] at hRl12
          have hW13 := hide ((unhide hW11).kid hb12 hz12 hRl12)
          clear happ12 hRl12 hb12 hz12 x0' x1' x2' x3' x4' q0 q1 q2 q3 q4 f12 hl11 hext hs11 hR11 hRd hW11 x0 x1 x2 x3 x4 hz10 hl10 HC hW10
          generalize w12.setCell ⟨w.heap.size + 1, 4, none⟩ (.slice a12 (ks.length + 1) c12) = w13 at *
          have H8 := hide (wants_any lo hi r b B w13 τ6 [bClose] (unhide hW13).rst (by decide))
          go_wp2_with fail
          refine (unhide H8).mono ?_
          rintro x w14 ⟨rfl, hs14, hR14⟩
          have hW14 := hide ((unhide hW13).call hs14 hR14)
          clear hs14 hR14 H8 hW13
          obtain ⟨e1, e2⟩ := unhide HNY
          have e3 := unhide HRR
          have hl1 : (ns ++ [s]).length = ns.length + 1 := by simp
          have hl2 : (ks ++ [t]).length = ks.length + 1 := by simp
          rw [e2] at e1
          simp only [← e3] at e1
          have HM2 : Hid (DirM B N σ nx (ns ++ [s]) (ks ++ [t]) k') := by
            have := unhide HM'
            rw [e2] at this
            simp only [← e3] at this
            exact this
          have HF : Hid (DirW (fun v d => Tv lo hi b v B d) lo hi r b B w w14 nx (ns ++ [s]) (ks ++ [t]) (.slice a8 (ns ++ [s]).length c8) (.slice a12 (ks ++ [t]).length c12) (ns ++ [s]).length (ks ++ [t]).length) := by
            show DirW _ _ _ _ _ _ _ _ _ _ _ _ _ _ _
            rw [hl1, hl2, e1]
            exact unhide hW14
          have HG := hide (unhide HMS w14 (unhide HF).rst)
          clear e1 e2 e3 hl1 hl2 hW14 HM' HNY HRR HMS
          go_wp2_with fail
          go_roundw
          case rel => exact ⟨nx, ns ++ [s], ks ++ [t], a8, a12, c8, c12, k', unhide HF, unhide HM2⟩
          case measure => exact unhide HG
end Go.Proofs.Ytikamklgelcnhaa
/- What was read is what is written so. Mathematics alone. -/
namespace Go.Proofs.Ytikamklgelcnhaa
open Go.RowKit
set_option linter.unusedSimpArgs false
theorem Le.ok {σ : RS} {p m : Nat} (h : Le σ (.ok (p, m))) : ∃ p' m', σ = .ok (p', m') := by
  match σ, h with
  | .error E, h => cases h
  | .ok (p', m'), _ => exact ⟨p', m', rfl⟩
theorem txt_inv {B : List UInt8} {σ : RS} {p' m' : Nat} (h : (txtS B σ).1 = .ok (p', m')) : ∃ p, σ = .ok (p, m') ∧ p + 8 ≤ p' ∧ p' ≤ B.length ∧ (txtS B σ).2.size ≤ 2097152 ∧ B.drop p = tx (sB (txtS B σ).2) ++ B.drop p' := by
  match σ, h with
  | .error E, h => cases h
  | .ok (p, m), h =>
    cases hr : rdT (B.drop p) with
    | error E => simp only [txtS, hr] at h; cases h
    | ok n =>
      simp only [txtS, hr] at h ⊢
      injection h with h
      injection h with h1 h2
      obtain ⟨h3, h4⟩ := rdT_inv hr
      have h5 := rdT_le hr
      rw [List.length_drop] at h5
      refine ⟨p, by rw [h2], by omega, by omega, ?_, ?_⟩
      · show ((B.drop (p + 8)).take n).toArray.size ≤ _
        simp; omega
      · rw [List.drop_drop, List.drop_drop] at h4
        rw [show p' = p + (8 + n + padN n) by omega]
        exact h4
theorem failS_ok {k : Int} {σ : RS} {p m : Nat} (h : failS k σ = .ok (p, m)) : False := by
  match σ, h with
  | .error E, h => cases h
  | .ok _, h => cases h
theorem want_inv {B : List UInt8} {σ : RS} {s : ByteArray} {p' m' : Nat} (h : wantS B σ s = .ok (p', m')) : ∃ p, σ = .ok (p, m') ∧ p + 8 ≤ p' ∧ p' ≤ B.length ∧ B.drop p = tx (sB s) ++ B.drop p' := by
  unfold wantS at h
  by_cases hc : (txtS B σ).2 = s
  · rw [if_pos hc] at h
    obtain ⟨p, h1, h2, h3, h4, h5⟩ := txt_inv h
    rw [hc] at h5
    exact ⟨p, h1, h2, h3, h5⟩
  · rw [if_neg hc] at h; exact absurd h (fun h => failS_ok h)
theorem wants_inv {B : List UInt8} (ts : List ByteArray) : ∀ {σ : RS} {p' m' : Nat}, wantsS B σ ts = .ok (p', m') → p' ≤ B.length → ∃ p, σ = .ok (p, m') ∧ p ≤ p' ∧ p ≤ B.length ∧ B.drop p = txs (ts.map sB) ++ B.drop p' := by
  induction ts with
  | nil => intro σ p' m' h hp; exact ⟨p', h, Nat.le_refl _, hp, rfl⟩
  | cons s ts ih =>
    intro σ p' m' h hp
    obtain ⟨p, h1, h2, h3, h4⟩ := ih (σ := wantS B σ s) h hp
    obtain ⟨q, g1, g2, g3, g4⟩ := want_inv h1
    refine ⟨q, g1, by omega, by omega, ?_⟩
    rw [g4, h4, List.map_cons, txs, List.append_assoc]
theorem either_inv {B : List UInt8} {σ : RS} {f s : ByteArray} {p' m' : Nat} (h : (eitherS B σ f s).1 = .ok (p', m')) : ∃ p, σ = .ok (p, m') ∧ p + 8 ≤ p' ∧ p' ≤ B.length ∧ B.drop p = tx (sB (if (eitherS B σ f s).2 then f else s)) ++ B.drop p' := by
  unfold eitherS at h ⊢
  by_cases hc : (txtS B σ).2 = f
  · rw [if_pos hc] at h ⊢
    obtain ⟨p, h1, h2, h3, h4, h5⟩ := txt_inv h
    rw [hc] at h5
    exact ⟨p, h1, h2, h3, h5⟩
  · rw [if_neg hc] at h ⊢
    obtain ⟨p, h1, h2, h3, h4⟩ := want_inv h
    exact ⟨p, h1, h2, h3, h4⟩
theorem file_inv {B : List UInt8} {σ : RS} {p' m' : Nat} (h : (fileS B σ).1 = .ok (p', m')) (hp : p' ≤ B.length) : ∃ p, σ = .ok (p, m') ∧ p + 8 ≤ p' ∧ B.drop p = (if (fileS B σ).2.1 then txs [wExec, []] else []) ++ (tx wCont ++ (tx (sB (fileS B σ).2.2) ++ (txs [wClose] ++ B.drop p'))) := by
  unfold fileS at h ⊢
  simp only at h ⊢
  obtain ⟨p1, h1, h2, h3, h4⟩ := wants_inv [bClose] h hp
  obtain ⟨p2, g1, g2, g3, g4, g5⟩ := txt_inv h1
  rw [h4] at g5
  unfold fileS1 at g1
  by_cases hx : (eitherS B σ bExec bCont).2 = true
  · rw [if_pos hx] at g1
    obtain ⟨p3, k1, k2, k3, k4⟩ := wants_inv [⟨#[]⟩, bCont] g1 (by omega)
    obtain ⟨p, q1, q2, q3, q4⟩ := either_inv k1
    refine ⟨p, q1, by omega, ?_⟩
    rw [q4, hx, k4, g5]
    simp only [if_true, List.map_cons, List.map_nil, txs, List.append_assoc, List.append_nil]
    rfl
  · rw [if_neg hx] at g1
    obtain ⟨p, q1, q2, q3, q4⟩ := either_inv g1
    refine ⟨p, q1, by omega, ?_⟩
    rw [q4, if_neg hx, if_neg hx, g5]
    rfl
theorem link_inv {B : List UInt8} {σ : RS} {p' m' : Nat} (h : (linkS B σ).1 = .ok (p', m')) (hp : p' ≤ B.length) : ∃ p, σ = .ok (p, m') ∧ p + 8 ≤ p' ∧ B.drop p = txs [wTarg] ++ (tx (sB (linkS B σ).2) ++ (txs [wClose] ++ B.drop p')) := by
  unfold linkS at h ⊢
  simp only at h ⊢
  obtain ⟨p1, h1, h2, h3, h4⟩ := wants_inv [bClose] h hp
  obtain ⟨p2, g1, g2, g3, g4, g5⟩ := txt_inv h1
  obtain ⟨p, k1, k2, k3, k4⟩ := wants_inv [bTarg] g1 (by omega)
  refine ⟨p, k1, by omega, ?_⟩
  rw [k4, g5, h4]
  rfl
theorem ent_inv {B : List UInt8} {σ : RS} {p' m' : Nat} (h : (entS B σ).1 = .ok (p', m')) (hp : p' ≤ B.length) : ∃ p, σ = .ok (p, m') ∧ p + 8 ≤ p' ∧ B.drop p = txs [wOpen, wName] ++ (tx (sB (entS B σ).2) ++ (txs [wNode] ++ B.drop p')) := by
  unfold entS at h ⊢
  simp only at h ⊢
  obtain ⟨p1, h1, h2, h3, h4⟩ := wants_inv [bNode] h hp
  obtain ⟨p2, g1, g2, g3, g4, g5⟩ := txt_inv h1
  obtain ⟨p, k1, k2, k3, k4⟩ := wants_inv [bOpen, bName] g1 (by omega)
  refine ⟨p, k1, by omega, ?_⟩
  rw [k4, g5, h4]
  rfl
theorem kind_inv {B : List UInt8} {deep : Nat} {σ : RS} {p' m' : Nat} (h : (kindS B deep σ).1 = .ok (p', m')) : ∃ p m, σ = .ok (p, m) ∧ p + 8 ≤ p' ∧ p' ≤ B.length ∧ B.drop p = txs [wOpen, wType] ++ (tx (sB (kindS B deep σ).2) ++ B.drop p') := by
  unfold kindS at h ⊢
  obtain ⟨p1, h1, h2, h3, h4, h5⟩ := txt_inv h
  obtain ⟨p, k1, k2, k3, k4⟩ := wants_inv [bOpen, bType] h1 (by omega)
  match σ, k1 with
  | .error E, k1 => cases k1
  | .ok (p0, m0), k1 =>
    simp only [beginS] at k1
    split at k1
    · cases k1
    · injection k1 with k1
      injection k1 with k1 _
      subst k1
      refine ⟨p0, m0, rfl, by omega, h3, ?_⟩
      rw [k4, h5]
      rfl
/-- What a reader of nodes must give: where it ended, and what stood there. -/
def NInv (B : List UInt8) (N : RS → RS × Tr) : Prop := ∀ σ p' m', (N σ).1 = .ok (p', m') → p' ≤ B.length → ∃ p m, σ = .ok (p, m) ∧ p ≤ p' ∧ B.drop p = nodeB (N σ).2 ++ B.drop p' ∧ 8 * wt (N σ).2 ≤ (nodeB (N σ).2).length
theorem wts_snoc (ks : List Tr) (t : Tr) : wts (ks ++ [t]) = wts ks + wt t := by
  induction ks with
  | nil => simp [wts]
  | cons a r ih => rw [List.cons_append, wts, wts, ih]; omega
theorem drop_inj {B X : List UInt8} {a b : Nat} (_ : a ≤ B.length) (hb : b ≤ B.length) (h : B.drop a = X ++ B.drop b) : X.length = b - a ∧ (a ≤ b ∨ X = []) := by
  have := congrArg List.length h
  rw [List.length_drop, List.length_append, List.length_drop] at this
  refine ⟨by omega, ?_⟩
  by_cases h : a ≤ b
  · exact .inl h
  · exact .inr (List.eq_nil_of_length_eq_zero (by omega))
theorem dir_inv (B : List UInt8) (N : RS → RS × Tr) (hN : NInv B N) (hle : ∀ σ, Le σ (N σ).1) (k : Nat) : ∀ (σ : RS) (ns0 : List ByteArray) (ks0 : List Tr) (p' m' : Nat), (∀ p m, σ = .ok (p, m) → B.length + 1 ≤ k + p ∧ p ≤ B.length) → ns0.length = ks0.length → (dirS B N k σ ns0 ks0).1 = .ok (p', m') → p' ≤ B.length →
    ∃ p m ns ks, σ = .ok (p, m) ∧ p ≤ p' ∧ (dirS B N k σ ns0 ks0).2 = (ns0 ++ ns, ks0 ++ ks) ∧ ns.length = ks.length ∧ B.drop p = entsB ns ks ++ (txs [wClose] ++ B.drop p') ∧ 8 * (ns.length + tenths ns + wts ks) ≤ (entsB ns ks).length := by
  induction k with
  | zero =>
    intro σ ns0 ks0 p' m' hf hl h hp
    rw [dirS] at h
    obtain ⟨h1, h2⟩ := hf p' m' h
    omega
  | succ k ih =>
    intro σ ns0 ks0 p' m' hf hl h hp
    rw [dirS] at h ⊢
    by_cases hE : (eitherS B σ bEntry bClose).2 = true
    · rw [if_pos hE] at h ⊢
      obtain ⟨p0, m0, rfl, hq, hq'⟩ := next_ok (N := N) hle hE
      unfold nextS at hq'
      obtain ⟨p1, m1, ns, ks, h1, h2, h3, h4, h5, h6⟩ := ih _ (ns0 ++ [_]) (ks0 ++ [_]) p' m' (fun p m he => by
        obtain ⟨a1, a2, a3, a4⟩ := wants_inv [bClose] he (by
          have g := (wantsS_le B [bClose] (N (entS B (eitherS B (.ok (p0, m0)) bEntry bClose).1).1).1)
          unfold wantsS at he
          simp only [List.foldl] at he
          obtain ⟨q, _, _, g, _⟩ := want_inv he
          exact g)
        unfold wantsS at he
        simp only [List.foldl] at he
        obtain ⟨q, _, _, g, _⟩ := want_inv he
        have := hq' p m he
        have := (hf p0 m0 rfl).1
        exact ⟨by omega, g⟩) (by simp [hl]) h hp
      obtain ⟨q1, g1, g2, g3, g4⟩ := wants_inv [bClose] h1 (by omega)
      obtain ⟨q2, m2, k1, k2, k3, k4⟩ := hN _ _ _ g1 (by omega)
      obtain ⟨q3, e1, e2, e3⟩ := ent_inv k1 (by omega)
      obtain ⟨q4, f1, f2, f3, f4⟩ := either_inv e1
      rw [hE] at f4
      simp only [if_true] at f4
      refine ⟨q4, _, (entS B (eitherS B (.ok (p0, m0)) bEntry bClose).1).2 :: ns, (N (entS B (eitherS B (.ok (p0, m0)) bEntry bClose).1).1).2 :: ks, f1, by omega, ?_, by simp [h4], ?_, ?_⟩
      · rw [h3]
        simp
      · rw [f4, e3, k3, g4, h5, entsB]
        simp only [List.map_cons, List.map_nil, txs, List.append_assoc, List.append_nil, List.nil_append]
        rfl
      · rw [entsB, tenths, wts]
        simp only [List.length_append, List.length_cons, txs, List.length_nil, tx_len]
        have := k4
        have hsB : (sB (entS B (eitherS B (.ok (p0, m0)) bEntry bClose).1).2).length = (entS B (eitherS B (.ok (p0, m0)) bEntry bClose).1).2.size := rfl
        omega
    · rw [if_neg hE] at h ⊢
      obtain ⟨p, h1, h2, h3, h4⟩ := either_inv h
      rw [if_neg hE] at h4
      refine ⟨p, m', [], [], h1, by omega, by simp, rfl, ?_, by simp [tenths, wts]⟩
      rw [h4, entsB]
      · simp only [txs, List.append_assoc, List.append_nil, List.nil_append]
        rfl
      · intro a b c; simp
theorem node_inv (B : List UInt8) (f : Nat) : ∀ deep, 66 ≤ f + deep → deep ≤ 65 → NInv B (nodeS B f deep) := by
  induction f with
  | zero => intro deep h1 h2; omega
  | succ f ih =>
    intro deep hd1 hd2
    intro σ p' m' h hp
    rw [nodeS] at h ⊢
    by_cases h1 : (kindS B deep σ).2 = bReg
    · rw [if_pos h1] at h ⊢
      simp only at h ⊢
      obtain ⟨p1, g1, g2, g3⟩ := file_inv h hp
      obtain ⟨p, m, e1, e2, e3, e4⟩ := kind_inv g1
      refine ⟨p, m, e1, by omega, ?_, ?_⟩
      · rw [e4, g3, nodeB, if_pos rfl, h1]
        simp only [txs, List.append_assoc, List.append_nil, List.nil_append]
        rfl
      · rw [nodeB, if_pos rfl, wt]
        simp only [List.length_append, txs, List.length_nil, tx_len, tenths, wts]
        have hsB : (sB (fileS B (kindS B deep σ).1).2.2).length = (fileS B (kindS B deep σ).1).2.2.size := rfl
        omega
    rw [if_neg h1] at h ⊢
    by_cases h2 : (kindS B deep σ).2 = bSym
    · rw [if_pos h2] at h ⊢
      simp only at h ⊢
      obtain ⟨p1, g1, g2, g3⟩ := link_inv h hp
      obtain ⟨p, m, e1, e2, e3, e4⟩ := kind_inv g1
      refine ⟨p, m, e1, by omega, ?_, ?_⟩
      · rw [e4, g3, nodeB, if_neg (by decide), if_pos rfl, h2]
        simp only [txs, List.append_assoc, List.append_nil, List.nil_append]
        rfl
      · rw [nodeB, if_neg (by decide), if_pos rfl, wt]
        simp only [List.length_append, txs, List.length_nil, tx_len, tenths, wts]
        have hsB : (sB (linkS B (kindS B deep σ).1).2).length = (linkS B (kindS B deep σ).1).2.size := rfl
        omega
    rw [if_neg h2] at h ⊢
    by_cases h3 : (kindS B deep σ).2 = bDir
    · rw [if_pos h3] at h ⊢
      simp only at h ⊢
      obtain ⟨hdeep, _⟩ := kind_ok h3 (by decide)
      have hN0 : NInv B (nodeS B f (deep + 1)) := ih (deep + 1) (by omega) (by omega)
      obtain ⟨p1, m1, ns, ks, g1, g2, g3, g4, g5, g6⟩ := dir_inv B _ hN0 (nodeS_le B f (deep + 1)) (B.length + 1) _ [] [] p' m' (fun p m he => by
        obtain ⟨_, _, _, _, q, _⟩ := kind_inv he
        exact ⟨by omega, q⟩) rfl h hp
      obtain ⟨p, m, e1, e2, e3, e4⟩ := kind_inv g1
      refine ⟨p, m, e1, by omega, ?_, ?_⟩
      · rw [g3, e4, g5, nodeB, if_neg (by decide), if_neg (by decide), if_pos rfl, h3]
        simp only [txs, List.append_assoc, List.append_nil, List.nil_append]
        rfl
      · rw [g3, nodeB, if_neg (by decide), if_neg (by decide), if_pos rfl, wt]
        simp only [List.length_append, txs, List.length_nil, tx_len, List.nil_append]
        have hz : (⟨#[]⟩ : ByteArray).size = 0 := rfl
        omega
    · rw [if_neg h3] at h
      exact absurd h (fun h => failS_ok h)
/-- What is read lies within. -/
def In (B : List UInt8) (σ : RS) : Prop := ∀ p m, σ = .ok (p, m) → p ≤ B.length
theorem txt_in (B : List UInt8) (σ : RS) : In B (txtS B σ).1 := fun p m h => by obtain ⟨_, _, _, h, _⟩ := txt_inv h; exact h
theorem want_in (B : List UInt8) (σ : RS) (s : ByteArray) : In B (wantS B σ s) := fun p m h => by obtain ⟨_, _, _, h, _⟩ := want_inv h; exact h
theorem wants1_in (B : List UInt8) (σ : RS) (s : ByteArray) : In B (wantsS B σ [s]) := want_in B σ s
theorem either_in (B : List UInt8) (σ : RS) (f s : ByteArray) : In B (eitherS B σ f s).1 := fun p m h => by obtain ⟨_, _, _, h, _⟩ := either_inv h; exact h
theorem dir_in (B : List UInt8) (N : RS → RS × Tr) (k : Nat) : ∀ σ ns ks, In B σ → In B (dirS B N k σ ns ks).1 := by
  induction k with
  | zero => intro σ ns ks h; rw [dirS]; exact h
  | succ k ih =>
    intro σ ns ks h
    rw [dirS]
    split
    · exact ih _ _ _ (wants1_in B _ _)
    · exact either_in B σ _ _
theorem node_in (B : List UInt8) (f deep : Nat) (σ : RS) (h : In B σ) : In B (nodeS B f deep σ).1 := by
  cases f with
  | zero => rw [nodeS]; exact h
  | succ f =>
    rw [nodeS]
    split
    · exact wants1_in B _ _
    · split
      · exact wants1_in B _ _
      · split
        · exact dir_in B _ _ _ _ _ (txt_in B _)
        · exact fun p m h => absurd h (fun h => failS_ok h)
theorem treeS_bound {B : List UInt8} {p' m' : Nat} (h : (treeS B (.ok (0, 0))).1 = .ok (p', m')) : p' ≤ B.length := node_in B 65 1 _ (wants1_in B _ _) p' m' h
theorem tree_inv {B : List UInt8} {p' m' : Nat} (h : (treeS B (.ok (0, 0))).1 = .ok (p', m')) : p' ≤ B.length ∧ B = narB (treeS B (.ok (0, 0))).2 ++ B.drop p' ∧ p' = (narB (treeS B (.ok (0, 0))).2).length ∧ 8 * wt (treeS B (.ok (0, 0))).2 ≤ B.length := by
  have hp : p' ≤ B.length := treeS_bound h
  unfold treeS at h ⊢
  obtain ⟨p, m, h1, h2, h3, h4⟩ := node_inv B 65 1 (by omega) (by omega) _ p' m' h hp
  obtain ⟨q, g1, g2, g3, g4⟩ := wants_inv [bMagic] h1 (by omega)
  injection g1 with g1
  injection g1 with g1 _
  subst g1
  rw [List.drop_zero] at g4
  have e : B = narB (nodeS B 65 1 (wantsS B (.ok (0, 0)) [bMagic])).2 ++ B.drop p' := by
    unfold narB
    rw [List.append_assoc, ← h3]
    exact g4
  have hl := congrArg List.length e
  rw [List.length_append, List.length_drop] at hl
  refine ⟨hp, e, by omega, ?_⟩
  unfold narB at hl
  rw [List.length_append] at hl
  omega
end Go.Proofs.Ytikamklgelcnhaa
/- Bytes that end too early. Mathematics alone. -/
namespace Go.Proofs.Ytikamklgelcnhaa
open Go.RowKit
set_option linter.unusedSimpArgs false
/-- Where all is read of the whole, of what is cut off the same is read, or it is too short. -/
def Cutp {α : Type} (_B C : List UInt8) (F : RS → RS × α) (G : RS → RS × α) : Prop := ∀ σ p' m', In C σ → (F σ).1 = .ok (p', m') → (G σ = F σ ∧ p' ≤ C.length) ∨ (G σ).1 = .error 2
theorem rdT_cutp {l : List UInt8} {n k : Nat} (h : rdT l = .ok n) : (rdT (l.take k) = .ok n ∧ 8 + n + padN n ≤ k) ∨ rdT (l.take k) = .error 2 := by
  have hle := rdT_le h
  obtain ⟨hb, he⟩ := rdT_inv h
  by_cases hk : 8 + n + padN n ≤ k
  · left
    refine ⟨?_, hk⟩
    have hl : ((l.drop 8).take n).length = n := by rw [List.length_take, List.length_drop]; omega
    have h1 : l.take k = tx ((l.drop 8).take n) ++ (l.drop (8 + n + padN n)).take (k - (8 + n + padN n)) := by
      conv => lhs; rw [he]
      rw [List.take_append, tx_len, hl, List.take_of_length_le (by rw [tx_len, hl]; exact hk)]
    rw [h1, rdT_tx _ _ (by rw [hl]; exact hb), hl]
  · right
    by_cases h8 : k < 8
    · exact rdT_short (by rw [List.length_take]; omega)
    · have hn : n = leN ((l.take k).take 8) := by
        rw [List.take_take, Nat.min_eq_left (by omega)]
        unfold rdT at h
        split at h
        · cases h
        · split at h
          · cases h
          · split at h
            · cases h
            · split at h
              · injection h with h; exact h.symm
              · cases h
      exact rdT_cut (by rw [List.length_take]; omega) hn hb (by rw [List.length_take]; omega)
theorem txt_cut (B : List UInt8) (k : Nat) : Cutp B (B.take k) (txtS B) (txtS (B.take k)) := by
  intro σ p' m' hin h
  obtain ⟨p, rfl, h1, h2, _, _⟩ := txt_inv h
  have hp := hin p m' rfl
  cases hr : rdT (B.drop p) with
  | error E => simp only [txtS, hr] at h; cases h
  | ok n =>
    simp only [txtS, hr] at h ⊢
    injection h with h
    injection h with e1 _
    have hle := rdT_le hr
    rw [List.length_drop] at hle
    have hd : (B.take k).drop p = (B.drop p).take (k - p) := List.drop_take
    rw [List.length_take] at hp
    rcases rdT_cutp (k := k - p) hr with ⟨g, gk⟩ | g
    · left
      rw [hd, g]
      simp only
      have hd8 : (B.take k).drop (p + 8) = (B.drop (p + 8)).take (k - (p + 8)) := List.drop_take
      rw [hd8, List.take_take, Nat.min_eq_left (by omega)]
      exact ⟨rfl, by rw [List.length_take]; omega⟩
    · right
      rw [hd, g]
theorem want_cut (B : List UInt8) (k : Nat) (s : ByteArray) : ∀ σ p' m', In (B.take k) σ → wantS B σ s = .ok (p', m') → (wantS (B.take k) σ s = wantS B σ s ∧ p' ≤ (B.take k).length) ∨ wantS (B.take k) σ s = .error 2 := by
  intro σ p' m' hin h
  unfold wantS at h ⊢
  by_cases hc : (txtS B σ).2 = s
  · rw [if_pos hc] at h ⊢
    rcases txt_cut B k σ p' m' hin h with ⟨g, gk⟩ | g
    · rw [g, if_pos hc]; exact .inl ⟨rfl, gk⟩
    · right
      rw [g]
      split
      · rfl
      · rfl
  · rw [if_neg hc] at h; exact absurd h (fun h => failS_ok h)
theorem Le.err {E : Int} {τ : RS} (h : Le (.error E) τ) : τ = .error E := h
theorem wants_cut (B : List UInt8) (k : Nat) (ts : List ByteArray) : ∀ σ p' m', In (B.take k) σ → wantsS B σ ts = .ok (p', m') → (wantsS (B.take k) σ ts = wantsS B σ ts ∧ p' ≤ (B.take k).length) ∨ wantsS (B.take k) σ ts = .error 2 := by
  induction ts with
  | nil =>
    intro σ p' m' hin h
    exact .inl ⟨rfl, hin p' m' h⟩
  | cons s ts ih =>
    intro σ p' m' hin h
    have hl := wantsS_le B ts (wantS B σ s)
    have h' : wantsS B (wantS B σ s) ts = .ok (p', m') := h
    rw [h'] at hl
    obtain ⟨p1, m1, h1⟩ := hl.ok
    rcases want_cut B k s σ p1 m1 hin h1 with ⟨g, gk⟩ | g
    · have : wantsS (B.take k) σ (s :: ts) = wantsS (B.take k) (wantS B σ s) ts := by show wantsS (B.take k) (wantS (B.take k) σ s) ts = _; rw [g]
      rw [this]
      exact ih _ p' m' (fun p m he => by rw [h1] at he; injection he with he; injection he with he _; omega) h'
    · right
      show wantsS (B.take k) (wantS (B.take k) σ s) ts = _
      rw [g]
      exact (wantsS_le (B.take k) ts (.error 2)).err
theorem either_cut (B : List UInt8) (k : Nat) (f s : ByteArray) (hf : f ≠ ⟨#[]⟩) : ∀ σ p' m', In (B.take k) σ → (eitherS B σ f s).1 = .ok (p', m') → (eitherS (B.take k) σ f s = eitherS B σ f s ∧ p' ≤ (B.take k).length) ∨ ((eitherS (B.take k) σ f s).1 = .error 2 ∧ (eitherS (B.take k) σ f s).2 = false) := by
  intro σ p' m' hin h
  have hno : ∀ E : Int, (txtS (B.take k) σ).1 = .error E → (txtS (B.take k) σ).2 ≠ f := by
    intro E he hc
    obtain ⟨_, _, _, _, _, h3⟩ := txtS_err hc hf
    rw [he] at h3; cases h3
  unfold eitherS at h ⊢
  by_cases hc : (txtS B σ).2 = f
  · rw [if_pos hc] at h ⊢
    rcases txt_cut B k σ p' m' hin h with ⟨g, gk⟩ | g
    · rw [g, if_pos hc]; exact .inl ⟨rfl, gk⟩
    · right
      rw [if_neg (hno _ g)]
      refine ⟨?_, rfl⟩
      simp only
      unfold wantS
      rw [g]
      split <;> rfl
  · rw [if_neg hc] at h ⊢
    simp only at h ⊢
    rcases want_cut B k s σ p' m' hin h with ⟨g, gk⟩ | g
    · have hl := txtS_le B σ
      have hok : ∃ p1 m1, (txtS B σ).1 = .ok (p1, m1) := by
        unfold wantS at h
        split at h
        · exact ⟨p', m', h⟩
        · exact absurd h (fun h => failS_ok h)
      obtain ⟨p1, m1, h1⟩ := hok
      rcases txt_cut B k σ p1 m1 hin h1 with ⟨q, qk⟩ | q
      · left
        rw [q, if_neg hc, g]
        exact ⟨rfl, gk⟩
      · right
        rw [if_neg (hno _ q)]
        refine ⟨?_, rfl⟩
        simp only
        unfold wantS
        rw [q]
        split <;> rfl
    · right
      have : (txtS (B.take k) σ).2 ≠ f := by
        intro hc2
        obtain ⟨q1, q2, q3, q4, q5, q6⟩ := txtS_err hc2 hf
        have hok : ∃ p1 m1, (txtS B σ).1 = .ok (p1, m1) := by
          unfold wantS at h
          split at h
          · exact ⟨p', m', h⟩
          · exact absurd h (fun h => failS_ok h)
        obtain ⟨p1, m1, h1⟩ := hok
        rcases txt_cut B k σ p1 m1 hin h1 with ⟨q, qk⟩ | q
        · rw [q] at hc2; exact hc hc2
        · rw [q] at q6; cases q6
      rw [if_neg this]
      exact ⟨g, rfl⟩
theorem in_ok {C : List UInt8} {p m : Nat} (h : p ≤ C.length) : In C (.ok (p, m)) := fun p' m' he => by injection he with he; injection he with he _; omega
theorem file_cut (B : List UInt8) (k : Nat) : Cutp B (B.take k) (fileS B) (fileS (B.take k)) := by
  intro σ p' m' hin h
  unfold fileS at h
  simp only at h
  obtain ⟨p1, h1, h2, h3, h4⟩ := wants_inv [bClose] h (by exact (wants1_in B _ _) p' m' h)
  obtain ⟨p2, g1, g2, g3, g4, g5⟩ := txt_inv h1
  have hE : ∃ p3 m3, (eitherS B σ bExec bCont).1 = .ok (p3, m3) := by
    unfold fileS1 at g1
    split at g1
    · have := wantsS_le B [⟨#[]⟩, bCont] (eitherS B σ bExec bCont).1
      rw [g1] at this
      exact this.ok
    · exact ⟨_, _, g1⟩
  obtain ⟨p3, m3, hE⟩ := hE
  have stay : ∀ τ, (fileS1 (B.take k) σ) = .error 2 → (fileS (B.take k) σ).1 = .error 2 ∨ τ = (0 : Nat) := by
    intro τ he
    left
    have h1 := (txtS_le (B.take k) (fileS1 (B.take k) σ)).trans (wantsS_le (B.take k) [bClose] _)
    rw [he] at h1
    unfold fileS
    simp only
    rw [he]
    exact h1.err
  rcases either_cut B k bExec bCont (by decide) σ p3 m3 hin hE with ⟨a, ak⟩ | ⟨a, a2⟩
  · have hF : (fileS1 (B.take k) σ = fileS1 B σ ∧ p2 ≤ (B.take k).length) ∨ fileS1 (B.take k) σ = .error 2 := by
      unfold fileS1 at g1 ⊢
      rw [a]
      by_cases hx : (eitherS B σ bExec bCont).2 = true
      · rw [if_pos hx] at g1 ⊢
        rw [if_pos hx]
        exact wants_cut B k _ _ p2 m' (by rw [hE]; exact in_ok ak) g1
      · rw [if_neg hx] at g1 ⊢
        rw [if_neg hx]
        rw [hE] at g1
        injection g1 with g1
        injection g1 with g1 _
        exact .inl ⟨rfl, by omega⟩
    rcases hF with ⟨b, bk⟩ | b
    · rcases txt_cut B k (fileS1 B σ) p1 m' (by rw [g1]; exact in_ok bk) h1 with ⟨c, ck⟩ | c
      · rcases wants_cut B k [bClose] _ p' m' (by rw [h1]; exact in_ok ck) h with ⟨d, dk⟩ | d
        · left
          refine ⟨?_, dk⟩
          unfold fileS
          rw [b, c, d, a]
        · right
          unfold fileS
          simp only
          rw [b, c, d]
      · right
        unfold fileS
        simp only
        rw [b, c]
        exact (wantsS_le (B.take k) [bClose] (.error 2)).err
    · right
      rcases stay 1 b with h | h
      · exact h
      · cases h
  · right
    have b : fileS1 (B.take k) σ = .error 2 := by unfold fileS1; rw [a2, if_neg (by decide), a]
    rcases stay 1 b with h | h
    · exact h
    · cases h
theorem link_cut (B : List UInt8) (k : Nat) : Cutp B (B.take k) (linkS B) (linkS (B.take k)) := by
  intro σ p' m' hin h
  unfold linkS at h ⊢
  simp only at h ⊢
  obtain ⟨p1, h1, h2, h3, h4⟩ := wants_inv [bClose] h ((wants1_in B _ _) p' m' h)
  obtain ⟨p2, g1, g2, g3, g4, g5⟩ := txt_inv h1
  rcases wants_cut B k [bTarg] σ p2 m' hin g1 with ⟨b, bk⟩ | b
  · rcases txt_cut B k _ p1 m' (by rw [g1]; exact in_ok bk) h1 with ⟨c, ck⟩ | c
    · rcases wants_cut B k [bClose] _ p' m' (by rw [h1]; exact in_ok ck) h with ⟨d, dk⟩ | d
      · left; rw [b, c, d]; exact ⟨rfl, dk⟩
      · right; rw [b, c, d]
    · right; rw [b, c]; exact (wantsS_le (B.take k) [bClose] (.error 2)).err
  · right
    rw [b]
    exact ((txtS_le (B.take k) (.error 2)).trans (wantsS_le (B.take k) [bClose] _)).err
theorem ent_cut (B : List UInt8) (k : Nat) : Cutp B (B.take k) (entS B) (entS (B.take k)) := by
  intro σ p' m' hin h
  unfold entS at h ⊢
  simp only at h ⊢
  obtain ⟨p1, h1, h2, h3, h4⟩ := wants_inv [bNode] h ((wants1_in B _ _) p' m' h)
  obtain ⟨p2, g1, g2, g3, g4, g5⟩ := txt_inv h1
  rcases wants_cut B k [bOpen, bName] σ p2 m' hin g1 with ⟨b, bk⟩ | b
  · rcases txt_cut B k _ p1 m' (by rw [g1]; exact in_ok bk) h1 with ⟨c, ck⟩ | c
    · rcases wants_cut B k [bNode] _ p' m' (by rw [h1]; exact in_ok ck) h with ⟨d, dk⟩ | d
      · left; rw [b, c, d]; exact ⟨rfl, dk⟩
      · right; rw [b, c, d]
    · right; rw [b, c]; exact (wantsS_le (B.take k) [bNode] (.error 2)).err
  · right
    rw [b]
    exact ((txtS_le (B.take k) (.error 2)).trans (wantsS_le (B.take k) [bNode] _)).err
theorem kind_cut (B : List UInt8) (k deep : Nat) : Cutp B (B.take k) (kindS B deep) (kindS (B.take k) deep) := by
  intro σ p' m' hin h
  unfold kindS at h ⊢
  obtain ⟨p2, g1, g2, g3, g4, g5⟩ := txt_inv h
  have hin' : In (B.take k) (beginS deep σ) := by
    intro p m he
    match σ, he with
    | .error E, he => cases he
    | .ok (p0, m0), he =>
      simp only [beginS] at he
      split at he
      · cases he
      · injection he with he
        injection he with he _
        have := hin p0 m0 rfl
        omega
  rcases wants_cut B k [bOpen, bType] _ p2 m' hin' g1 with ⟨b, bk⟩ | b
  · rw [b]
    exact txt_cut B k _ p' m' (by rw [g1]; exact in_ok bk) h
  · right
    rw [b]
    exact (txtS_le (B.take k) (.error 2)).err
theorem dirS_err (B : List UInt8) (N : RS → RS × Tr) (hle : ∀ σ, Le σ (N σ).1) (k : Nat) (E : Int) (ns : List ByteArray) (ks : List Tr) : (dirS B N k (.error E) ns ks).1 = .error E := (dirS_le B N hle k (.error E) ns ks).err
theorem dir_cut (B : List UInt8) (c : Nat) (N M : RS → RS × Tr) (hN : Cutp B (B.take c) N M) (hle : ∀ σ, Le σ (N σ).1) (hle' : ∀ σ, Le σ (M σ).1) (k' : Nat) : ∀ (k : Nat) (σ : RS) (ns : List ByteArray) (ks : List Tr) (p' m' : Nat), In (B.take c) σ → (∀ p m, σ = .ok (p, m) → B.length + 1 ≤ k + p ∧ p ≤ B.length ∧ (B.take c).length + 1 ≤ k' + p) → (dirS B N k σ ns ks).1 = .ok (p', m') →
    (dirS (B.take c) M k' σ ns ks = dirS B N k σ ns ks ∧ p' ≤ (B.take c).length) ∨ (dirS (B.take c) M k' σ ns ks).1 = .error 2 := by
  induction k' with
  | zero =>
    intro k σ ns ks p' m' hin hf h
    have hl := dirS_le B N hle k σ ns ks
    rw [h] at hl
    obtain ⟨p, m, rfl⟩ := hl.ok
    have h1 := (hf p m rfl).2.2
    have h2 := hin p m rfl
    omega
  | succ k' ih =>
    intro k σ ns ks p' m' hin hf h
    have hl := dirS_le B N hle k σ ns ks
    rw [h] at hl
    obtain ⟨p, m, rfl⟩ := hl.ok
    obtain ⟨f1, f2, f3⟩ := hf p m rfl
    obtain ⟨k, rfl⟩ : ∃ j, k = j + 1 := ⟨k - 1, by omega⟩
    rw [dirS] at h
    rw [dirS, dirS]
    have hE : ∃ p3 m3, (eitherS B (.ok (p, m)) bEntry bClose).1 = .ok (p3, m3) := by
      split at h
      · have h1 := (((entS_le B (eitherS B (.ok (p, m)) bEntry bClose).1).trans (hle _)).trans (wantsS_le B [bClose] _)).trans (dirS_le B N hle k _ (ns ++ [(entS B (eitherS B (.ok (p, m)) bEntry bClose).1).2]) (ks ++ [(N (entS B (eitherS B (.ok (p, m)) bEntry bClose).1).1).2]))
        rw [h] at h1
        exact h1.ok
      · exact ⟨_, _, h⟩
    obtain ⟨p3, m3, hE⟩ := hE
    rcases either_cut B c bEntry bClose (by decide) _ p3 m3 hin hE with ⟨a, ak⟩ | ⟨a, a2⟩
    · rw [a]
      by_cases hx : (eitherS B (.ok (p, m)) bEntry bClose).2 = true
      · rw [if_pos hx] at h
        rw [if_pos hx, if_pos hx]
        obtain ⟨_, _, e0, hq, hq'⟩ := next_ok (N := N) hle hx
        injection e0 with e0
        injection e0 with e0 e0'
        subst e0
        subst e0'
        unfold nextS at hq'
        have l4 := dirS_le B N hle k (wantsS B (N (entS B (eitherS B (.ok (p, m)) bEntry bClose).1).1).1 [bClose]) (ns ++ [(entS B (eitherS B (.ok (p, m)) bEntry bClose).1).2]) (ks ++ [(N (entS B (eitherS B (.ok (p, m)) bEntry bClose).1).1).2])
        rw [h] at l4
        obtain ⟨p4, m4, e4⟩ := l4.ok
        have l5 := wantsS_le B [bClose] (N (entS B (eitherS B (.ok (p, m)) bEntry bClose).1).1).1
        rw [e4] at l5
        obtain ⟨p5, m5, e5⟩ := l5.ok
        have l6 := hle (entS B (eitherS B (.ok (p, m)) bEntry bClose).1).1
        rw [e5] at l6
        obtain ⟨p6, m6, e6⟩ := l6.ok
        rcases ent_cut B c _ p6 m6 (by rw [hE]; exact in_ok ak) e6 with ⟨b, bk⟩ | b
        · rw [b]
          rcases hN _ p5 m5 (by rw [e6]; exact in_ok bk) e5 with ⟨d, dk⟩ | d
          · rw [d]
            rcases wants_cut B c [bClose] _ p4 m4 (by rw [e5]; exact in_ok dk) e4 with ⟨f, fk⟩ | f
            · rw [f]
              refine ih k _ _ _ p' m' (by rw [e4]; exact in_ok fk) (fun p0 m0 he => ?_) h
              have g1 := hq' p0 m0 he
              have g2 := wants1_in B _ _ p0 m0 he
              exact ⟨by omega, g2, by omega⟩
            · right
              rw [f]
              exact dirS_err _ _ hle' _ _ _ _
          · right
            have := (wantsS_le (B.take c) [bClose] (M (entS B (eitherS B (.ok (p, m)) bEntry bClose).1).1).1)
            rw [d] at this ⊢
            rw [this.err]
            exact dirS_err _ _ hle' _ _ _ _
        · right
          have := (hle' (entS (B.take c) (eitherS B (.ok (p, m)) bEntry bClose).1).1).trans (wantsS_le (B.take c) [bClose] _)
          rw [b] at this ⊢
          rw [this.err]
          exact dirS_err _ _ hle' _ _ _ _
      · rw [if_neg hx] at h
        rw [if_neg hx, if_neg hx]
        rw [hE] at h
        injection h with h
        injection h with h _
        exact .inl ⟨rfl, by omega⟩
    · right
      rw [a2, if_neg (by decide)]
      exact a
theorem node_cut (B : List UInt8) (c f : Nat) : ∀ deep, Cutp B (B.take c) (nodeS B f deep) (nodeS (B.take c) f deep) := by
  induction f with
  | zero =>
    intro deep σ p' m' hin h
    rw [nodeS] at h
    exact .inl ⟨rfl, hin p' m' h⟩
  | succ f ih =>
    intro deep σ p' m' hin h
    have hK : ∃ p3 m3, (kindS B deep σ).1 = .ok (p3, m3) := by
      rw [nodeS] at h
      split at h
      · have := fileS_le B (kindS B deep σ).1
        rw [h] at this; exact this.ok
      · split at h
        · have := linkS_le B (kindS B deep σ).1
          rw [h] at this; exact this.ok
        · split at h
          · have := dirS_le B (nodeS B f (deep + 1)) (nodeS_le B f (deep + 1)) (B.length + 1) (kindS B deep σ).1 [] []
            rw [h] at this; exact this.ok
          · exact absurd h (fun h => failS_ok h)
    obtain ⟨p3, m3, hK⟩ := hK
    obtain ⟨_, _, _, _, hp3, _⟩ := kind_inv hK
    rcases kind_cut B c deep σ p3 m3 hin hK with ⟨a, ak⟩ | a
    · rw [nodeS] at h ⊢
      rw [nodeS, a]
      by_cases h1 : (kindS B deep σ).2 = bReg
      · rw [if_pos h1] at h ⊢
        rw [if_pos h1]
        rcases file_cut B c _ p' m' (by rw [hK]; exact in_ok ak) h with ⟨b, bk⟩ | b
        · left; rw [b]; exact ⟨rfl, bk⟩
        · exact .inr b
      rw [if_neg h1] at h ⊢
      rw [if_neg h1]
      by_cases h2 : (kindS B deep σ).2 = bSym
      · rw [if_pos h2] at h ⊢
        rw [if_pos h2]
        rcases link_cut B c _ p' m' (by rw [hK]; exact in_ok ak) h with ⟨b, bk⟩ | b
        · left; rw [b]; exact ⟨rfl, bk⟩
        · exact .inr b
      rw [if_neg h2] at h ⊢
      rw [if_neg h2]
      by_cases h3 : (kindS B deep σ).2 = bDir
      · rw [if_pos h3] at h ⊢
        rw [if_pos h3]
        rcases dir_cut B c _ _ (ih (deep + 1)) (nodeS_le B f (deep + 1)) (nodeS_le (B.take c) f (deep + 1)) ((B.take c).length + 1) (B.length + 1) _ [] [] p' m' (by rw [hK]; exact in_ok ak) (fun p m he => by rw [hK] at he; injection he with he; injection he with he _; exact ⟨by omega, by omega, by omega⟩) h with ⟨b, bk⟩ | b
        · left; rw [b]; exact ⟨rfl, bk⟩
        · exact .inr b
      · rw [if_neg h3] at h
        exact absurd h (fun h => failS_ok h)
    · right
      have hno : ∀ s : ByteArray, s ≠ ⟨#[]⟩ → (kindS (B.take c) deep σ).2 ≠ s := by
        intro s hs he
        obtain ⟨_, _, _, _, _, _, _, e⟩ := kind_ok he hs
        rw [a] at e; cases e
      rw [nodeS, if_neg (hno _ (by decide)), if_neg (hno _ (by decide)), if_neg (hno _ (by decide)), a]
      rfl
theorem tree_cut_at (B : List UInt8) (T : Tr) (k f : Nat) (m : Nat) (σ : RS) (hin : In (B.take k) σ) (hk : k < B.length) (h : nodeS B f 1 (wantsS B σ [bMagic]) = (.ok (B.length, m), T)) : (nodeS (B.take k) f 1 (wantsS (B.take k) σ [bMagic])).1 = .error 2 := by
  have hl := nodeS_le B f 1 (wantsS B σ [bMagic])
  rw [h] at hl
  obtain ⟨p1, m1, h1⟩ := hl.ok
  rcases wants_cut B k [bMagic] _ p1 m1 hin h1 with ⟨a, ak⟩ | a
  · rw [a]
    rcases node_cut B k f 1 (wantsS B σ [bMagic]) B.length m (by rw [h1]; exact in_ok ak) (by rw [h]) with ⟨b, bk⟩ | b
    · rw [List.length_take] at bk; omega
    · exact b
  · rw [a]
    exact (nodeS_le _ f 1 (.error 2)).err
/-- An archive that ends too early. -/
theorem tree_cut (T : Tr) (hc : (chk T 1 0).1 = 0) (k : Nat) (hk : k < (narB T).length) : (treeS ((narB T).take k) (.ok (0, 0))).1 = .error 2 := by
  have h := tree_w T [] hc
  rw [List.append_nil] at h
  unfold treeS at h ⊢
  exact tree_cut_at (narB T) T k 65 _ _ (in_ok (Nat.zero_le _)) hk h
end Go.Proofs.Ytikamklgelcnhaa
/- A tree that lies in blocks of a kind, and its data in memory of its own, one node behind the other. -/
namespace Go.Proofs.Ytikamklgelcnhaa
open Go.RowKit
set_option linter.unusedSimpArgs false
/-- A row whose block is of a kind. -/
def RowP (S : Nat → Prop) (w : World) (v : Value) (n : Nat) (xs : List Value) : Prop := ∃ b, (0 < n → S b) ∧ Row b (b + 1) w v n xs
theorem RowP.mono {S S' : Nat → Prop} {w : World} {v : Value} {n : Nat} {xs : List Value} (h : RowP S w v n xs) (hS : ∀ k, S k → S' k) : RowP S' w v n xs := by
  obtain ⟨b, h1, h2⟩ := h
  exact ⟨b, fun h => hS b (h1 h), h2⟩
theorem RowP.same {S : Nat → Prop} {w w' : World} {v : Value} {n : Nat} {xs : List Value} (h : RowP S w v n xs) (hs : ∀ k, S k → w'.heap[k]? = w.heap[k]?) : RowP S w' v n xs := by
  obtain ⟨b, h1, a, c, e, hc, hx⟩ := h
  refine ⟨b, h1, a, c, e, hc, fun h0 => ?_⟩
  obtain ⟨g, o, ea, hg1, hg2, hcell⟩ := hx h0
  obtain rfl : g = b := by omega
  exact ⟨g, o, ea, hg1, hg2, fun j u hj => by rw [World.cell?_of_block (w := w) (a := ⟨g, o + j, none⟩) (hs g (h1 h0))]; exact hcell j u hj⟩
theorem RowP.row {S : Nat → Prop} {w : World} {v : Value} {n : Nat} {xs : List Value} {lo hi : Nat} (h : RowP S w v n xs) (hS : ∀ k, S k → lo ≤ k ∧ k < hi) : Row lo hi w v n xs := by
  obtain ⟨b, h1, a, c, e, hc, hx⟩ := h
  refine ⟨a, c, e, hc, fun h0 => ?_⟩
  obtain ⟨g, o, ea, hg1, hg2, hcell⟩ := hx h0
  obtain rfl : g = b := by omega
  exact ⟨g, o, ea, (hS g (h1 h0)).1, (hS g (h1 h0)).2, hcell⟩
theorem owns_rowp {w : World} {base : Nat} {e : TypeId} {size : Nat} {v : Value} {n : Nat} {xs : List Value} {S : Nat → Prop} (h : w.ownsRow base e size v n xs) (hS : ∀ g, v.ownBlock = some g → S g) : RowP S w v n xs := by
  rcases h.2 with ⟨rfl, rfl⟩ | ⟨g, cap, cur, rfl, hg, hh, hcap, hm, hsz, ht⟩
  · exact ⟨0, fun h => absurd h (by decide), none, 0, rfl, Nat.le_refl _, fun h => absurd h (by decide)⟩
  · exact ⟨g, fun _ => hS g rfl, owns_row h (fun k hk => by simp [Value.ownBlock] at hk; omega)⟩
inductive Lyp (S : Nat → Prop) (w : World) : Tr → List Value → Prop
  | mk (k : Int) (x : Bool) (d : ByteArray) (ns : List ByteArray) (ks : List Tr) (vd vn vk : Value) (Ks : List (List Value))
      (hl : Ks.length = ks.length) (hd : RowP S w vd d.size (byteVals d)) (hn : RowP S w vn ns.length (ns.map .string)) (hk : RowP S w vk ks.length Ks.flatten)
      (hK : ∀ (i : Nat) (t : Tr) (c : List Value), ks[i]? = some t → Ks[i]? = some c → Lyp S w t c) : Lyp S w (.mk k x d ns ks) [.int .i64 k, .bool x, vd, vn, vk]
theorem Lyp.mono {S S' : Nat → Prop} {w : World} {T : Tr} {cs : List Value} (h : Lyp S w T cs) (hS : ∀ k, S k → S' k) : Lyp S' w T cs := by
  induction h with
  | mk k x d ns ks vd vn vk Ks hl hd hn hk hK ih => exact .mk k x d ns ks vd vn vk Ks hl (hd.mono hS) (hn.mono hS) (hk.mono hS) ih
theorem Lyp.same {S : Nat → Prop} {w w' : World} {T : Tr} {cs : List Value} (h : Lyp S w T cs) (hs : ∀ k, S k → w'.heap[k]? = w.heap[k]?) : Lyp S w' T cs := by
  induction h with
  | mk k x d ns ks vd vn vk Ks hl hd hn hk hK ih => exact .mk k x d ns ks vd vn vk Ks hl (hd.same hs) (hn.same hs) (hk.same hs) ih
theorem Lyp.lies {S : Nat → Prop} {w : World} {T : Tr} {cs : List Value} {lo hi : Nat} (h : Lyp S w T cs) (hS : ∀ k, S k → lo ≤ k ∧ k < hi) : Lies lo hi w T cs := by
  induction h with
  | mk k x d ns ks vd vn vk Ks hl hd hn hk hK ih => exact .mk k x d ns ks vd vn vk Ks hl (hd.row hS) (hn.row hS) (hk.row hS) ih
/-- Five cells of a block. -/
def At5 (w : World) (g o : Nat) (cs : List Value) : Prop := ∃ arr ty, w.heap[g]? = some (.cells arr ty) ∧ ∀ j u, cs[j]? = some u → arr[o + j]? = some u
theorem At5.cell {w : World} {g o : Nat} {cs : List Value} (h : At5 w g o cs) (j : Nat) (u : Value) (hj : cs[j]? = some u) : w.cell? ⟨g, o + j, none⟩ = some u := by
  obtain ⟨arr, ty, h1, h2⟩ := h
  rw [cell_of_row w g (o + j) arr ty _ h1]; exact h2 j u hj
theorem At5.fr {w : World} {g o : Nat} {cs : List Value} (h : At5 w g o cs) (j : Nat) : w.frozen? ⟨g, j, none⟩ = false := by
  obtain ⟨arr, ty, h1, h2⟩ := h
  unfold World.frozen?; rw [h1]; simp
theorem At5.lt {w : World} {g o : Nat} {cs : List Value} (h : At5 w g o cs) : g < w.heap.size := by
  obtain ⟨arr, ty, h1, h2⟩ := h
  exact (Array.getElem?_eq_some_iff.1 h1).1
theorem At5.of {w w' : World} {g o : Nat} {cs : List Value} (h : At5 w g o cs) (hs : w'.heap[g]? = w.heap[g]?) : At5 w' g o cs := by
  obtain ⟨arr, ty, h1, h2⟩ := h
  exact ⟨arr, ty, by rw [hs]; exact h1, h2⟩
theorem At5.set {w : World} {g o : Nat} {cs : List Value} (h : At5 w g o cs) (v : Value) : At5 (w.setCell ⟨g, o + 2, none⟩ v) g o (cs.set 2 v) := by
  obtain ⟨arr, ty, h1, h2⟩ := h
  refine ⟨arr.setIfInBounds (o + 2) v, ty, by simp [World.setCell, Array.getElem?_modify, h1], fun j u hj => ?_⟩
  rw [List.getElem?_set] at hj
  rw [Array.getElem?_setIfInBounds]
  by_cases e : 2 = j
  · subst e
    rw [if_pos rfl] at hj
    split at hj
    · rename_i h3
      have := h2 2 (cs[2]) (List.getElem?_eq_getElem h3)
      have h4 := (Array.getElem?_eq_some_iff.1 this).1
      rw [if_pos rfl, if_pos h4]
      exact hj
    · cases hj
  · rw [if_neg e] at hj
    rw [if_neg (by omega)]
    exact h2 j u hj
/-- The other cells of that block. -/
theorem At5.set_else {w : World} {g o o' : Nat} {cs : List Value} (h : At5 w g o cs) (v : Value) (hc : cs.length = 5) (ho : o' + 2 < o ∨ o + 5 ≤ o' + 2) : At5 (w.setCell ⟨g, o' + 2, none⟩ v) g o cs := by
  obtain ⟨arr, ty, h1, h2⟩ := h
  refine ⟨arr.setIfInBounds (o' + 2) v, ty, by simp [World.setCell, Array.getElem?_modify, h1], fun j u hj => ?_⟩
  have := (List.getElem?_eq_some_iff.1 hj).1
  rw [Array.getElem?_setIfInBounds, if_neg (by omega)]
  exact h2 j u hj
def Tr.dat : Tr → ByteArray | .mk _ _ d _ _ => d
/-- What turned. -/
structure OwF (g lo hi : Nat) (w w' : World) : Prop where
  os : w'.os = w.os
  tape : w'.tape = w.tape
  output : w'.output = w.output
  size : w.heap.size ≤ w'.heap.size
  block : ∀ k, k < w.heap.size → k ≠ g → (k < lo ∨ hi ≤ k) → w'.heap[k]? = w.heap[k]?
/-- What own leaves. -/
def OwA (g o lo hi : Nat) (T : Tr) (cs : List Value) (w : World) (e : Ending) (w' : World) : Prop :=
  e = .returned (.tuple #[]) ∧ OwF g lo hi w w' ∧ ∃ a c, w'.ownsRow w.heap.size 5 1 (.slice a T.dat.size c) T.dat.size (byteVals T.dat) ∧ w'.heap[g]? = (w.setCell ⟨g, o + 2, none⟩ (.slice a T.dat.size c)).heap[g]? ∧
    Lyp (fun k => (lo ≤ k ∧ k < hi) ∨ (w.heap.size ≤ k ∧ k < w'.heap.size)) w' T (cs.set 2 (.slice a T.dat.size c))
theorem flat_at (Ks : List (List Value)) (h5 : ∀ c ∈ Ks, c.length = 5) : ∀ (i : Nat) (c : List Value), Ks[i]? = some c → ∀ j u, c[j]? = some u → Ks.flatten[5 * i + j]? = some u := by
  induction Ks with
  | nil => intro i c h; simp at h
  | cons a r ih =>
    intro i c h j u hj
    have ha := h5 a (by simp)
    rw [List.flatten_cons]
    cases i with
    | zero =>
      simp at h
      subst h
      have := (List.getElem?_eq_some_iff.1 hj).1
      rw [List.getElem?_append_left (by omega)]
      simpa using hj
    | succ i =>
      rw [List.getElem?_append_right (by omega)]
      have := ih (fun c hc => h5 c (by simp [hc])) i c (by simpa using h) j u hj
      rw [show 5 * (i + 1) + j - a.length = 5 * i + j by omega]
      exact this
theorem flat_of (Ks : List (List Value)) (h5 : ∀ c ∈ Ks, c.length = 5) : ∀ (m : Nat) (u : Value), Ks.flatten[m]? = some u → ∃ i c j, Ks[i]? = some c ∧ c[j]? = some u ∧ m = 5 * i + j := by
  induction Ks with
  | nil => intro m u h; simp at h
  | cons a r ih =>
    intro m u h
    have ha := h5 a (by simp)
    rw [List.flatten_cons] at h
    by_cases hm : m < a.length
    · rw [List.getElem?_append_left hm] at h
      exact ⟨0, a, m, rfl, h, by omega⟩
    · rw [List.getElem?_append_right (by omega)] at h
      obtain ⟨i, c, j, h1, h2, h3⟩ := ih (fun c hc => h5 c (by simp [hc])) _ u h
      exact ⟨i + 1, c, j, by simpa using h1, h2, by omega⟩
/-- Kids, the first of which are done. -/
structure OwK (D : Value → ByteArray → Prop) (gk : Nat) (L H : Nat → Nat) (ks : List Tr) (w wr : World) (Kr : List (List Value)) (i : Nat) : Prop where
  len : Kr.length = ks.length
  five : ∀ c ∈ Kr, c.length = 5
  at5 : ∀ (j : Nat) (c : List Value), Kr[j]? = some c → At5 wr gk (5 * j) c
  done : ∀ (j : Nat) (t : Tr) (c : List Value), j < i → ks[j]? = some t → Kr[j]? = some c → Lyp (fun k => (L j ≤ k ∧ k < H j) ∨ (w.heap.size ≤ k ∧ k < wr.heap.size)) wr t c
  rest : ∀ (j : Nat) (t : Tr) (c : List Value), i ≤ j → ks[j]? = some t → Kr[j]? = some c → Rdn D wr (L j) (H j) t c
/-- One kid more. -/
theorem OwK.step {D : Value → ByteArray → Prop} {gk : Nat} {L H : Nat → Nat} {ks : List Tr} {w wr w1 : World} {Kr : List (List Value)} {i : Nat} {t : Tr} {c : List Value} {e : Ending} (h : OwK D gk L H ks w wr Kr i) (ht : ks[i]? = some t) (hc : Kr[i]? = some c) (hA : OwA gk (5 * i) (L i) (H i) t c wr e w1)
    (hz : w.heap.size ≤ wr.heap.size) (hg : gk < w.heap.size) (hH : ∀ j, j < ks.length → H j ≤ w.heap.size ∧ (gk < L j ∨ H j ≤ gk)) (hdis : ∀ i j, i < j → j < ks.length → H i ≤ L j) : ∃ Kr', OwK D gk L H ks w w1 Kr' (i + 1) := by
  obtain ⟨_, hF, a, cc, hrow, hblk, hL⟩ := hA
  have hi := (List.getElem?_eq_some_iff.1 ht).1
  have hz1 := hF.size
  have hmem := List.mem_of_getElem? hc
  have h5 := h.five c hmem
  refine ⟨Kr.set i (c.set 2 (.slice a t.dat.size cc)), by simp [h.len], ?_, ?_, ?_, ?_⟩
  · intro c' hc'
    rcases List.mem_or_eq_of_mem_set hc' with h' | rfl
    · exact h.five c' h'
    · simp [h5]
  · intro j c' hj
    rw [List.getElem?_set] at hj
    by_cases e : i = j
    · subst e
      rw [if_pos rfl] at hj
      split at hj
      · injection hj with hj
        subst hj
        exact ((h.at5 i c hc).set (.slice a t.dat.size cc)).of hblk
      · cases hj
    · rw [if_neg e] at hj
      exact ((h.at5 j c' hj).set_else (o' := 5 * i) (.slice a t.dat.size cc) (h.five c' (List.mem_of_getElem? hj)) (by omega)).of hblk
  · intro j t' c' hj ht' hc'
    have hj' := (List.getElem?_eq_some_iff.1 ht').1
    rw [List.getElem?_set] at hc'
    by_cases e : i = j
    · subst e
      rw [ht] at ht'
      injection ht' with ht'
      subst ht'
      rw [if_pos rfl] at hc'
      split at hc'
      · injection hc' with hc'
        subst hc'
        refine hL.mono (fun k hk => ?_)
        rcases hk with hk | hk
        · exact .inl hk
        · exact .inr ⟨by omega, hk.2⟩
      · cases hc'
    · rw [if_neg e] at hc'
      have hd := hdis j i (by omega) hi
      have hHj := hH j hj'
      refine ((h.done j t' c' (by omega) ht' hc').same (fun k hk => ?_)).mono (fun k hk => ?_)
      · have hHi := hH i hi
        rcases hk with hk | hk
        · refine hF.block k (by omega) (by omega) (by omega)
        · refine hF.block k hk.2 (by omega) (by omega)
      · rcases hk with hk | hk
        · exact .inl hk
        · exact .inr ⟨hk.1, by omega⟩
  · intro j t' c' hj ht' hc'
    have hj' := (List.getElem?_eq_some_iff.1 ht').1
    rw [List.getElem?_set, if_neg (by omega)] at hc'
    refine (h.rest j t' c' (by omega) ht' hc').same (fun k hk1 hk2 => ?_)
    have hd := hdis i j (by omega) hj'
    have hHj := hH j hj'
    exact hF.block k (by omega) (by omega) (by omega)
end Go.Proofs.Ytikamklgelcnhaa
/- own: a tree's data into memory of its own. -/
namespace Go.Proofs.Ytikamklgelcnhaa
open Go.RowKit
set_option linter.unusedSimpArgs false
/-- own under way: so many kids are done. -/
structure OwL (D : Value → ByteArray → Prop) (g o lo hi : Nat) (k : Int) (x : Bool) (d : ByteArray) (ns : List ByteArray) (ks : List Tr) (vn : Value) (a1 : Option Addr) (c1 : Nat) (a3 : Option Addr) (c3 : Nat) (L H : Nat → Nat) (w wr : World) (i : Nat) : Prop where
  fr : OwF g lo hi w wr
  row : wr.ownsRow w.heap.size 5 1 (.slice a1 d.size c1) d.size (byteVals d)
  blk : wr.heap[g]? = (w.setCell ⟨g, o + 2, none⟩ (.slice a1 d.size c1)).heap[g]?
  at5 : At5 wr g o [.int .i64 k, .bool x, .slice a1 d.size c1, vn, .slice a3 ks.length c3]
  names : wr.ownsRow lo 9 1 vn ns.length (ns.map .string)
  kids : ∃ gk Kr, (0 < ks.length → a3 = some ⟨gk, 0, none⟩ ∧ gk < w.heap.size ∧ lo ≤ gk ∧ gk < hi ∧ ∀ j, j < ks.length → gk < L j ∨ H j ≤ gk) ∧ OwK D gk L H ks w wr Kr i
theorem OwL.end {D : Value → ByteArray → Prop} {g o lo hi : Nat} {k : Int} {x : Bool} {d : ByteArray} {ns : List ByteArray} {ks : List Tr} {vn : Value} {a a1 : Option Addr} {c c1 : Nat} {a3 : Option Addr} {c3 : Nat} {L H : Nat → Nat} {w wr : World} (h : OwL D g o lo hi k x d ns ks vn a1 c1 a3 c3 L H w wr ks.length) (hc3 : ks.length ≤ c3) (hin : ∀ g, vn.ownBlock = some g → g < hi) (hLH : ∀ i, i < ks.length → lo ≤ L i ∧ H i ≤ hi) :
    OwA g o lo hi (.mk k x d ns ks) [.int .i64 k, .bool x, .slice a d.size c, vn, .slice a3 ks.length c3] w (.returned (.tuple #[])) wr := by
  obtain ⟨gk, Kr, hgk, hK⟩ := h.kids
  refine ⟨rfl, h.fr, a1, c1, h.row, h.blk, ?_⟩
  refine .mk k x d ns ks _ vn _ Kr hK.len (owns_rowp h.row (fun g hg => .inr (owns_lt h.row g hg))) (owns_rowp h.names (fun g hg => .inl ⟨(owns_lt h.names g hg).1, hin g hg⟩)) ?_ (fun i t c h1 h2 => ?_)
  · by_cases h0 : 0 < ks.length
    · obtain ⟨rfl, e1, e2, e3, e4⟩ := hgk h0
      refine ⟨gk, fun _ => .inl ⟨e2, e3⟩, _, c3, rfl, hc3, fun _ => ⟨gk, 0, rfl, Nat.le_refl _, by omega, fun j u hj => ?_⟩⟩
      obtain ⟨i, c, j', q1, q2, rfl⟩ := flat_of Kr hK.five j u hj
      rw [Nat.zero_add]
      exact (hK.at5 i c q1).cell j' u q2
    · exact ⟨0, fun h => absurd h h0, a3, c3, rfl, hc3, fun h => absurd h h0⟩
  · have hi := (List.getElem?_eq_some_iff.1 h1).1
    refine (hK.done i t c hi h1 h2).mono (fun k hk => ?_)
    have := hLH i hi
    rcases hk with hk | hk
    · exact .inl (by omega)
    · exact .inr hk
theorem OwL.begin {D : Value → ByteArray → Prop} {g o lo hi : Nat} {k : Int} {x : Bool} {d : ByteArray} {ns : List ByteArray} {ks : List Tr} {vn : Value} {a a1 : Option Addr} {c c1 : Nat} {a3 : Option Addr} {c3 : Nat} {L H : Nat → Nat} {w w1 : World} {Ks : List (List Value)} (hA : At5 w g o [.int .i64 k, .bool x, .slice a d.size c, vn, .slice a3 ks.length c3]) (hb : Below w.heap.size w w1) (ho : w1.ownsRow w.heap.size 5 1 (.slice a1 d.size c1) d.size (byteVals d)) (hg : g < lo ∨ hi ≤ g) (hhi : hi ≤ w.heap.size)
    (hl : Ks.length = ks.length) (hn : w.ownsRow lo 9 1 vn ns.length (ns.map .string)) (hk : w.ownsRow lo 26 5 (.slice a3 ks.length c3) ks.length Ks.flatten)
    (hin : ∀ g, (vn.ownBlock = some g ∨ (Value.slice a3 ks.length c3).ownBlock = some g) → g < hi)
    (hK : ∀ (i : Nat) (t : Tr) (c : List Value), ks[i]? = some t → Ks[i]? = some c → Rdn D w (L i) (H i) t c)
    (hLH : ∀ i, i < ks.length → lo ≤ L i ∧ H i ≤ hi ∧ ∀ g, (vn.ownBlock = some g ∨ (Value.slice a3 ks.length c3).ownBlock = some g) → g < L i ∨ H i ≤ g) :
    OwL D g o lo hi k x d ns ks vn a1 c1 a3 c3 L H w (w1.setCell ⟨g, o + 2, none⟩ (.slice a1 d.size c1)) 0 := by
  have hlt := hA.lt
  have hz := hb.size
  have hA1 := hA.of (hb.block g hlt)
  have hother : ∀ k, k ≠ g → (w1.setCell ⟨g, o + 2, none⟩ (.slice a1 d.size c1)).heap[k]? = w1.heap[k]? := fun k hk => set_other _ _ _ _ _ hk
  have hsame : ∀ k, k < w.heap.size → k ≠ g → (w1.setCell ⟨g, o + 2, none⟩ (.slice a1 d.size c1)).heap[k]? = w.heap[k]? := fun k h1 h2 => by rw [hother k h2, hb.block k h1]
  have hfive : ∀ c ∈ Ks, c.length = 5 := by
    intro c hc
    obtain ⟨i, hi, he⟩ := List.getElem_of_mem hc
    have := hK i ks[i] c (List.getElem?_eq_getElem (by omega)) (by rw [List.getElem?_eq_getElem hi, he])
    exact this.length
  refine ⟨⟨hb.os, hb.tape, hb.output, by simp [World.setCell]; omega, fun k h1 h2 _ => hsame k h1 h2⟩, ?_, ?_, ?_, ?_, ?_⟩
  · exact owns_same ho (fun g' hg' => hother g' (by have := (owns_lt ho g' hg').1; omega)) (fun _ _ h => h)
  · obtain ⟨arr, ty, h1, h2⟩ := hA
    have h1' : w1.heap[g]? = some (.cells arr ty) := by rw [hb.block g hlt]; exact h1
    simp [World.setCell, Array.getElem?_modify, h1, h1']
  · exact hA1.set _
  · exact owns_same hn (fun g' hg' => hsame g' (owns_lt hn g' hg').2 (by have := (owns_lt hn g' hg').1; have := hin g' (.inl hg'); omega)) (fun _ _ h => h)
  · rcases hk.2 with ⟨e1, e2⟩ | ⟨gk, cap, cur, e1, hgk, hh, hcap, hm, hcs, htk⟩
    · refine ⟨0, Ks, fun h => by omega, hl, hfive, fun j c hj => ?_, fun j t c hj _ _ => by omega, fun j t c _ hj _ => ?_⟩
      · have := (List.getElem?_eq_some_iff.1 hj).1; omega
      · have := (List.getElem?_eq_some_iff.1 hj).1; omega
    · injection e1 with e1 _ e3
      subst e1
      have hgk2 := hin gk (.inr rfl)
      refine ⟨gk, Ks, fun _ => ⟨rfl, by omega, hgk, hgk2, fun j hj => (hLH j hj).2.2 gk (.inr rfl)⟩, hl, hfive, fun j c hj => ?_, fun j t c hj _ _ => by omega, fun j t c _ hj hc => ?_⟩
      · refine At5.of (w := w) ⟨cur, 26, hh, fun j' u hj' => ?_⟩ (hsame gk (by omega) (by omega))
        have := flat_at Ks hfive j c hj j' u hj'
        rw [← htk] at this
        have hj2 := (List.getElem?_eq_some_iff.1 this).1
        rw [List.length_take] at hj2
        rw [List.getElem?_take_of_lt (by omega)] at this
        rw [← this]; simp
      · refine (hK j t c hj hc).same (fun k hk1 hk2 => ?_)
        have := hLH j (List.getElem?_eq_some_iff.1 hj).1
        exact hsame k (by omega) (by omega)
/-- One kid more. -/
theorem OwL.step {D : Value → ByteArray → Prop} {g o lo hi : Nat} {k : Int} {x : Bool} {d : ByteArray} {ns : List ByteArray} {ks : List Tr} {vn : Value} {a1 : Option Addr} {c1 : Nat} {a3 : Option Addr} {c3 : Nat} {L H : Nat → Nat} {w wr w1 : World} {i : Nat} {gk : Nat} {Kr : List (List Value)} {t : Tr} {c : List Value} {e : Ending} (h : OwL D g o lo hi k x d ns ks vn a1 c1 a3 c3 L H w wr i) (hK : OwK D gk L H ks w wr Kr i) (h3 : a3 = some ⟨gk, 0, none⟩) (ht : ks[i]? = some t) (hc : Kr[i]? = some c) (hA : OwA gk (5 * i) (L i) (H i) t c wr e w1)
    (hg : g < lo ∨ hi ≤ g) (hhi : hi ≤ w.heap.size) (hlo : lo ≤ gk) (hgk : gk < hi) (hvn : ∀ g, vn.ownBlock = some g → g < hi) (hne : vn.ownBlock ≠ some gk) (hgl : g < w.heap.size)
    (hLH : ∀ j, j < ks.length → lo ≤ L j ∧ H j ≤ hi ∧ (gk < L j ∨ H j ≤ gk) ∧ ∀ g, vn.ownBlock = some g → g < L j ∨ H j ≤ g) (hdis : ∀ i j, i < j → j < ks.length → H i ≤ L j) : OwL D g o lo hi k x d ns ks vn a1 c1 a3 c3 L H w w1 (i + 1) := by
  have hi := (List.getElem?_eq_some_iff.1 ht).1
  obtain ⟨Kr', hK'⟩ := hK.step ht hc hA h.fr.size (by omega) (fun j hj => ⟨by have := hLH j hj; omega, (hLH j hj).2.2.1⟩) hdis
  obtain ⟨_, hF, _⟩ := hA
  have hL := hLH i hi
  have hz := h.fr.size
  have hgb : w1.heap[g]? = wr.heap[g]? := hF.block g (by omega) (by omega) (by omega)
  refine ⟨⟨hF.os.trans h.fr.os, hF.tape.trans h.fr.tape, hF.output.trans h.fr.output, Nat.le_trans hz hF.size, fun k h1 h2 h3 => ?_⟩, ?_, ?_, ?_, ?_, ⟨gk, Kr', fun _ => ⟨h3, by omega, hlo, hgk, fun j hj => (hLH j hj).2.2.1⟩, hK'⟩⟩
  · rw [hF.block k (by omega) (by omega) (by omega)]
    exact h.fr.block k h1 h2 h3
  · refine owns_same h.row (fun g' hg' => ?_) (fun _ _ h => h)
    have := owns_lt h.row g' hg'
    exact hF.block g' this.2 (by omega) (by omega)
  · rw [hgb]; exact h.blk
  · exact h.at5.of hgb
  · refine owns_same h.names (fun g' hg' => ?_) (fun _ _ h => h)
    have := owns_lt h.names g' hg'
    have h5 := hvn g' hg'
    exact hF.block g' this.2 (fun e => hne (e ▸ hg')) (by have := hL.2.2.2 g' hg'; omega)
set_option maxRecDepth 20000 in
set_option maxHeartbeats 1000000 in
theorem own_any (D : Value → ByteArray → Prop) (lo0 hi0 : Nat) (T : Tr) : ∀ (g o lo hi : Nat) (cs : List Value) (w : World), (∀ (W : World) v d, (∀ k, k < hi0 → W.heap[k]? = w.heap[k]?) → D v d → Row lo0 hi0 W v d.size (byteVals d)) → Rdn D w lo hi T cs → At5 w g o cs → (g < lo ∨ hi ≤ g) → hi0 ≤ lo → hi0 ≤ g → hi ≤ w.heap.size → wt T ≤ 100000 →
    Calls Try.prog 41 #[.pointer (some ⟨g, o, none⟩)] w (OwA g o lo hi T cs w) := by
  induction T using Tr.ind with
  | h k x d ns ks ih =>
  intro g o lo hi cs w hD hR hA hg h0 h0g hhi hwt
  cases hR with
  | mk _ _ _ _ _ _ _ a c vn vk Ks L H hl hd hn hk hin hne hK hLH hdis =>
  have hSm := small_of hwt
  have hkl := hSm.k
  have hsz := hSm.d
  obtain ⟨a3, c3, rfl, hc3⟩ := owns_slice hk
  obtain ⟨a1, c1, w1, happ, hb1, hown⟩ : ∃ a1 c1 w1, (∀ ty, (app22 ty #[.slice none 0 0, .slice a d.size c]).run Try.prog w = .ok (.slice a1 d.size c1) w1) ∧ Below w.heap.size w w1 ∧ w1.ownsRow w.heap.size 5 1 (.slice a1 d.size c1) d.size (byteVals d) := by
    obtain ⟨v1, w1, happ, ho1, hg1, _⟩ := app22_own w w.heap.size lo0 hi0 _ 0 [] a d.size c (byteVals d) (World.ownsRow_nil _ _ _ _) (hD w _ _ (fun _ _ => rfl) hd) (byteVals_length d) (one_bytes d) (by omega) (Nat.le_refl _)
    rw [Nat.zero_add, List.nil_append] at ho1
    obtain ⟨a1, c1, rfl, _⟩ := owns_slice ho1
    exact ⟨a1, c1, w1, happ, (Below.refl _ w).grown hg1 (Nat.le_refl _) (fun k hk => by simp [Value.ownBlock] at hk), ho1⟩
  have c0 := hA.cell 2 _ rfl
  have c4 := hA.cell 4 _ rfl
  have hA1 := hA.of (hb1.block g hA.lt)
  have d2 := hA1.cell 2 _ rfl
  have d4 := hA1.cell 4 _ rfl
  have f2 := hA1.fr (o + 2)
  have hgl := hA.lt
  have HB := hide (OwL.begin (a := a) (c := c) hA hb1 hown hg hhi hl hn hk hin hK hLH)
  have HE := hide (fun (wr : World) (h : OwL D g o lo hi k x d ns ks vn a1 c1 a3 c3 L H w wr ks.length) => h.end (a := a) (c := c) hc3 (fun g hg => hin g (.inl hg)) (fun i hi => ⟨(hLH i hi).1, (hLH i hi).2.1⟩))
  have HI := hide ih
  have HD := hide hD
  have HX := hide (And.intro hin (And.intro hne (And.intro hLH hdis)))
  clear hb1 hown hl hn hk hin hne hK hLH hdis hA1 hD ih hd
  go_enter Try.func41, Try.ntmps41
  go_wp2_with fail
  go_loopw [16] (fun vi wr => ∃ i : Nat, i ≤ ks.length ∧ vi = .int .i64 (i : Int) ∧ Hid (OwL D g o lo hi k x d ns ks vn a1 c1 a3 c3 L H w wr i)) (fun vi _ => ks.length - (intOf vi).toNat)
  case atStart => exact ⟨0, by omega, rfl, unhide HB⟩
  case round =>
    clear HB happ
    obtain ⟨i, hi1, rfl, hL⟩ := hrel
    by_cases hq : i < ks.length
    · obtain ⟨gk, Kr, hgk, hOK⟩ := (unhide hL).kids
      obtain ⟨e3, g1, g2, g3, g4⟩ := hgk (by omega)
      subst e3
      have c4' := (unhide hL).at5.cell 4 _ rfl
      have hKi : i < Kr.length := by rw [hOK.len]; exact hq
      have hcall := unhide HI ks[i] (List.getElem_mem hq) gk (5 * i) (L i) (H i) Kr[i] wr (fun W v d hW hDv => unhide HD W v d (fun k hk => by rw [hW k hk]; exact (unhide hL).fr.block k (by omega) (by omega) (by omega)) hDv) (hOK.rest i _ _ (Nat.le_refl _) (List.getElem?_eq_getElem hq) (List.getElem?_eq_getElem hKi)) (hOK.at5 i _ (List.getElem?_eq_getElem hKi)) (g4 i hq) (by have := (unhide HX).2.2.1 i hq; omega) (by omega) (by have := (unhide HX).2.2.1 i hq; have := (unhide hL).fr.size; omega) (hSm.t _ (List.getElem_mem hq))
      have HC := hide hcall
      have HOK := hide hOK
      have HG := hide (And.intro g1 (And.intro g2 (And.intro g3 g4)))
      clear hcall hOK hgk g1 g2 g3 g4
      go_wp2_with fail
      rw [Nat.mul_comm i 5]
      refine (unhide HC).mono ?_
      rintro e w2 hA2
      obtain rfl := hA2.1
      have HS := hide ((unhide hL).step (unhide HOK) rfl (List.getElem?_eq_getElem hq) (List.getElem?_eq_getElem hKi) hA2 hg hhi (unhide HG).2.1 (unhide HG).2.2.1 (fun g h => (unhide HX).1 g (.inl h)) ((unhide HX).2.1 gk rfl) hgl (fun j hj => ⟨((unhide HX).2.2.1 j hj).1, ((unhide HX).2.2.1 j hj).2.1, (unhide HG).2.2.2 j hj, fun g h => ((unhide HX).2.2.1 j hj).2.2 g (.inl h)⟩) (unhide HX).2.2.2)
      clear hA2 HC HOK HG hL
      go_wp2_with fail
      go_roundw
      case rel => exact ⟨i + 1, by omega, by simp, unhide HS⟩
      case measure => simp [intOf]; omega
    · obtain rfl : i = ks.length := by omega
      have HF := hide (unhide HE wr (unhide hL))
      clear hL
      go_wp2_with fail
      exact bodyPost_end (v := .tuple #[]) (by simp [results, Try.results41, go_sem]) rfl (unhide HF)
end Go.Proofs.Ytikamklgelcnhaa
/- The reader's tree, from its node. -/
namespace Go.Proofs.Ytikamklgelcnhaa
open Go.RowKit
set_option linter.unusedSimpArgs false
set_option maxRecDepth 20000 in
set_option maxHeartbeats 1000000 in
theorem tree_step (lo hi r : Nat) (b : Value) (B : List UInt8)
    (HN : ∀ (w : World) (σ : RS), Rst lo hi r b B w σ → Calls Try.prog 59 #[.pointer (some ⟨r, 0, none⟩), .int .i64 1] w (NdA lo hi r b B w (nodeS B 65 1 σ).1 (nodeS B 65 1 σ).2))
    (w : World) (σ : RS) (h : Rst lo hi r b B w σ) :
    Calls Try.prog 38 #[.pointer (some ⟨r, 0, none⟩)] w (NdA lo hi r b B w (treeS B σ).1 (treeS B σ).2) := by
  obtain ⟨Q, hQ⟩ : ∃ Q, Q = NdA lo hi r b B w (treeS B σ).1 (treeS B σ).2 := ⟨_, rfl⟩
  rw [← hQ]
  unfold treeS at hQ
  have HQ := hide hQ
  obtain ⟨W0, hW0⟩ : ∃ W0, W0 = w.alloc (.cells #[.int .i64 0, .bool false, .slice none 0 0, .slice none 0 0, .slice none 0 0] 26) := ⟨_, rfl⟩
  have hb0 : Below w.heap.size w W0 := by rw [hW0]; exact (Below.refl _ _).alloc (Nat.le_refl _) _
  have hs0 : W0.heap.size = w.heap.size + 1 := by rw [hW0]; simp
  have hx0 : Bx W0 w.heap.size (.int .i64 0) (.bool false) (.slice none 0 0) (.slice none 0 0) (.slice none 0 0) := by rw [hW0]; exact bx_new _ _ _ _ _ _
  have hlt := h.lt
  have hhi := h.hi
  have H1 := hide (wants_any lo hi r b B W0 σ [bMagic] (h.kept hb0 hlt h.hi) (by decide))
  have HX0 := hide (And.intro (Sole.of_below (g := r) hb0) hx0)
  rw [hs0] at H1
  have HS0 := hide hs0
  have HW0 := hide hW0
  have HNN := hide HN
  clear h hb0 hx0 hQ hs0 hW0 HN
  go_enter Try.func38, Try.ntmps38
  go_wp2_with fail
  rw [← unhide HW0]
  refine (unhide H1).mono ?_
  rintro x w1 ⟨rfl, hs1, hR1⟩
  have hz1 := hs1.size
  rw [unhide HS0] at hz1
  have HX3 := hide (And.intro ((unhide HX0).1.trans hs1) ((unhide HX0).2.sole hs1 (by omega)))
  have H2 := hide (unhide HNN w1 _ hR1)
  clear hs1 hR1 H1 HX0
  go_wp2_with fail
  refine (unhide H2).mono ?_
  rintro x w4 hN
  obtain ⟨k', y', b1, n1, d1, b2, n2, d2, b3, n3, d3, rfl⟩ := hN.form
  have hs4 : Sole r w1 w4 := by obtain ⟨_, _, h, _⟩ := hN; exact h
  have hx4 := (unhide HX3).2.sole hs4 (by omega)
  have HE := hide (hN.store (unhide HX3).1 (by omega) hlt hhi)
  obtain ⟨x0, x1, x2, x3, x4⟩ := hx4.cells
  have g0 := hx4.fr 0
  have g1 := hx4.fr 1
  have g2 := hx4.fr 2
  have g3 := hx4.fr 3
  have g4 := hx4.fr 4
  clear hN hs4 hx4
  go_wp2_with fail
  refine bodyPost_ret (v := .agg #[.int .i64 k', .bool y', .slice b1 n1 d1, .slice b2 n2 d2, .slice b3 n3 d3]) (by simp [results, Try.results38, go_sem, x0, x1, x2, x3, x4]) rfl ?_
  rw [unhide HQ]
  exact unhide HE
end Go.Proofs.Ytikamklgelcnhaa
/- The reader's node and tree. -/
namespace Go.Proofs.Ytikamklgelcnhaa
open Go.RowKit
theorem rnode_any (lo hi r : Nat) (b : Value) (B : List UInt8) (hB : B.length ≤ 4000000) (f : Nat) : ∀ deep, 66 ≤ f + deep → 1 ≤ f → deep ≤ 65 → ∀ (w : World) (σ : RS), Rst lo hi r b B w σ →
    Calls Try.prog 59 #[.pointer (some ⟨r, 0, none⟩), .int .i64 (deep : Int)] w (NdA lo hi r b B w (nodeS B f deep σ).1 (nodeS B f deep σ).2) := by
  induction f with
  | zero => intro deep _ h; omega
  | succ f ih =>
    intro deep h1 _ h3 w σ h
    refine node_step lo hi r b B f deep (by omega) (fun w σ hR hd => ?_) w σ h
    exact dir_step lo hi r b B deep (by omega) hB (nodeS B f (deep + 1)) (nodeS_le B f (deep + 1)) (fun w σ h => ih (deep + 1) (by omega) (by omega) (by omega) w σ h) w σ hR
theorem rtree_any (lo hi r : Nat) (b : Value) (B : List UInt8) (hB : B.length ≤ 4000000) (w : World) (σ : RS) (h : Rst lo hi r b B w σ) :
    Calls Try.prog 38 #[.pointer (some ⟨r, 0, none⟩)] w (NdA lo hi r b B w (treeS B σ).1 (treeS B σ).2) :=
  tree_step lo hi r b B (fun w σ h => rnode_any lo hi r b B hB 65 1 (by omega) (by omega) (by omega) w σ h) w σ h
end Go.Proofs.Ytikamklgelcnhaa
/- The reader's end. -/
namespace Go.Proofs.Ytikamklgelcnhaa
open Go.RowKit
set_option linter.unusedSimpArgs false
def endS (B : List UInt8) : RS → RS
  | .error E => .error E
  | .ok (p, m) => if p < B.length then .error 3 else .ok (p, m)
set_option maxRecDepth 20000 in
set_option maxHeartbeats 1000000 in
theorem end_rs (lo hi r : Nat) (b : Value) (B : List UInt8) (w : World) (p : Nat) (m e : Int) (h : Rs lo hi r b B w p m e) :
    Calls Try.prog 39 #[.pointer (some ⟨r, 0, none⟩)] w fun x w' => x = .returned (.tuple #[]) ∧ Rs lo hi r b B w' p m (if p < B.length then orE e 3 else e) ∧ Sole r w w' := by
  obtain ⟨a, c, rfl, hc⟩ := h.form
  obtain ⟨h0, h1, h2, h3⟩ := h.rx.cells
  have HR := hide h
  have HF := hide (fun W (hW : Rx W r (.slice a B.length c) p m e) => fail_any r (.slice a B.length c) p m e 3 W hW)
  have hbig := h.big
  have hle := h.le
  clear h
  by_cases hq : p < B.length
  · rw [if_pos hq]
    generalize hL : B.length = L at *
    go_enter Try.func39, Try.ntmps39
    go_wp2_with fail
    go_quiet (fail)
    go_wp2_with fail
    refine (unhide HF _ ((unhide HR).rx.drewN _)).mono ?_
    rintro x w1 ⟨rfl, hs1, hr1⟩
    have hs : Sole r w w1 := ((Sole.refl r w).drewN _).trans hs1
    have HZ := hide (And.intro ((unhide HR).step hs hr1 (unhide HR).le) hs)
    clear hs1 hr1 hs
    go_wp2_with fail
    exact bodyPost_end (v := .tuple #[]) (by simp [results, Try.results39, go_sem]) rfl ⟨rfl, unhide HZ⟩
  · rw [if_neg hq]
    generalize hL : B.length = L at *
    go_enter Try.func39, Try.ntmps39
    go_wp2_with fail
    go_quiet (fail)
    go_wp2_with fail
    have hs : Sole r w (w.drewN nq) := (Sole.refl r w).drewN _
    exact bodyPost_end (v := .tuple #[]) (by simp [results, Try.results39, go_sem]) rfl ⟨rfl, (unhide HR).step hs ((unhide HR).rx.drewN _) (unhide HR).le, hs⟩
theorem end_any (lo hi r : Nat) (b : Value) (B : List UInt8) (w : World) (σ : RS) (h : Rst lo hi r b B w σ) :
    Calls Try.prog 39 #[.pointer (some ⟨r, 0, none⟩)] w fun x w' => x = .returned (.tuple #[]) ∧ Sole r w w' ∧ Rst lo hi r b B w' (endS B σ) := by
  match σ, h with
  | .ok (p, m), ⟨h, hm⟩ =>
    refine (end_rs lo hi r b B w p m 0 h).mono ?_
    rintro x w' ⟨rfl, hr, hs⟩
    refine ⟨rfl, hs, ?_⟩
    unfold endS
    by_cases hc : p < B.length
    · simp only [if_pos hc]
      rw [if_pos hc, orE_zero] at hr
      exact ⟨by omega, p, m, hr⟩
    · simp only [if_neg hc]
      rw [if_neg hc] at hr
      exact ⟨hr, hm⟩
  | .error E, ⟨he, p, m, h⟩ =>
    refine (end_rs lo hi r b B w p m E h).mono ?_
    rintro x w' ⟨rfl, hr, hs⟩
    rw [orE_ne he, ite_self] at hr
    exact ⟨rfl, hs, he, p, m, hr⟩
end Go.Proofs.Ytikamklgelcnhaa
/- The reader's check. -/
namespace Go.Proofs.Ytikamklgelcnhaa
open Go.RowKit
set_option linter.unusedSimpArgs false
noncomputable def chkS (T : Tr) : RS → RS
  | .error E => .error E
  | .ok (p, m) => if (chk T 1 0).1 = 0 then .ok (p, m) else .error (((chk T 1 0).1 : Nat) : Int)
set_option maxRecDepth 20000 in
set_option maxHeartbeats 1000000 in
theorem rcheck_any (lo hi r : Nat) (b : Value) (B : List UInt8) (w : World) (σ : RS) (T : Tr) (l u : Nat) (cs : List Value) (h : Rst lo hi r b B w σ) (hL : Lies l u w T cs) (hW : ∀ p m, σ = .ok (p, m) → wt T ≤ 100000) (hu : u ≤ w.heap.size) :
    Calls Try.prog 40 #[.pointer (some ⟨r, 0, none⟩), .agg cs.toArray] w fun x w' => x = .returned (.tuple #[]) ∧ Sole r w w' ∧ Rst lo hi r b B w' (chkS T σ) := by
  obtain ⟨kt, xt, at0, nt, ct, bt, mt, dt, et, pt, qt, rfl⟩ := hL.form
  obtain ⟨W0, hW0⟩ : ∃ W0, W0 = w.alloc (.cells #[.int .i64 kt, .bool xt, .slice at0 nt ct, .slice bt mt dt, .slice et pt qt] 26) := ⟨_, rfl⟩
  have hb0 : Below w.heap.size w W0 := by rw [hW0]; exact (Below.refl _ _).alloc (Nat.le_refl _) _
  have hlt := h.lt
  have hR0 := h.kept hb0 hlt h.hi
  have hx0 : Bx W0 w.heap.size (.int .i64 kt) (.bool xt) (.slice at0 nt ct) (.slice bt mt dt) (.slice et pt qt) := by rw [hW0]; exact bx_new _ _ _ _ _ _
  have HC0 := hide (fun hw : wt T ≤ 100000 => check_any T l u _ W0 (hL.kept hb0 hu) hw (Nat.le_trans hu hb0.size))
  have HS0 : Hid (Sole r w W0) := Sole.of_below hb0
  obtain ⟨p, m, e, hRs, hcase⟩ := hR0.rs
  obtain ⟨h0, h1, h2, h3⟩ := hRs.rx.cells
  obtain ⟨y0, y1, y2, y3, y4⟩ := hx0.cells
  have HR := hide hRs
  have HR0 := hide hR0
  rw [hW0] at h0 h1 h2 h3
  have HW0 := hide hW0
  rcases hcase with ⟨k, rfl, rfl, hk, rfl⟩ | ⟨he, rfl⟩
  · have HC := hide (unhide HC0 (hW p k rfl))
    clear HC0
    generalize hE : (chk T 1 0).1 = E at *
    have HE := hide hE
    clear h hb0 hRs hR0 hx0 hL y0 y1 y2 y3 y4 hW0 hE hW
    go_enter Try.func40, Try.ntmps40
    go_wp2_with fail
    rw [← unhide HW0]
    refine (unhide HC).mono ?_
    rintro x w1 ⟨rfl, hb1⟩
    have hl0 := (unhide HR).rx.lt
    have hr1 := (unhide HR).kept hb1 hl0 (unhide HR).hi
    obtain ⟨z0, z1, z2, z3⟩ := hr1.rx.cells
    have hf := hr1.rx.fr 3
    have hs1 : Sole r w (w1.setCell ⟨r, 3, none⟩ (.int .i64 (E : Int))) := ((unhide HS0).trans (Sole.of_below hb1)).setCell 3 _
    have hs2 : Sole r w1 (w1.setCell ⟨r, 3, none⟩ (.int .i64 (E : Int))) := (Sole.refl r w1).setCell 3 _
    have HZ : Hid (Sole r w (w1.setCell ⟨r, 3, none⟩ (.int .i64 (E : Int))) ∧ Rst lo hi r b B (w1.setCell ⟨r, 3, none⟩ (.int .i64 (E : Int))) (chkS T (.ok (p, k)))) := by
      refine ⟨hs1, ?_⟩
      have hst := hr1.step hs2 (hr1.rx.set3 (E : Int)) hr1.le
      unfold chkS
      rw [unhide HE]
      by_cases h0 : E = 0
      · simp only [if_pos h0]
        rw [h0] at hst ⊢
        exact ⟨hst, hk⟩
      · simp only [if_neg h0]
        exact ⟨by omega, p, k, hst⟩
    clear hs1 hs2 hr1 hb1 h0 h1 h2 h3
    go_wp2_with fail
    exact bodyPost_end (v := .tuple #[]) (by simp [results, Try.results40, go_sem]) rfl ⟨rfl, unhide HZ⟩
  · clear HC0
    have hbe : (e == 0) = false := by rw [beq_eq_false_iff_ne]; exact he
    clear h hb0 hRs hR0 hx0 hL y0 y1 y2 y3 y4 hW0
    go_enter Try.func40, Try.ntmps40
    go_wp2_with fail
    rw [← unhide HW0]
    exact bodyPost_end (v := .tuple #[]) (by simp [results, Try.results40, go_sem]) rfl ⟨rfl, unhide HS0, unhide HR0⟩
end Go.Proofs.Ytikamklgelcnhaa
