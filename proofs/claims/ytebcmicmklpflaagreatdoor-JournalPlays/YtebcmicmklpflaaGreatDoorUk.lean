/- JournalPlays: the law's walk. -/
import Derived.Test.YtebcmicmklpflaaGreatDoorUj
namespace Go.Proofs.YtebcmicmklpflaaGreatDoor
open Go.RowKit Go.Maps
set_option linter.unusedSimpArgs false
theorem plays_start (w : World) : Calls Tryz.prog 15 #[.int .i64 4194304] w fun e w1 => ∃ f, e = .returned (.tuple #[.pointer (some ⟨f, 0, none⟩), .int .i64 0]) ∧ Hid (Calls Tryz.prog 16 #[.pointer (some ⟨f, 0, none⟩), .string nmL] w1 fun e w2 => ∃ j, e = .returned (.tuple #[.pointer (some ⟨j, 0, none⟩), .int .i64 0]) ∧ Hid (PI w (w2.alloc (.cells #[.slice none 0 0, .slice none 0 0] 36)) f w2.heap.size j 0 0)) := by
  refine (new_ok 4194304 w (by omega)).mono fun e w1 ⟨e1, hF1, hb1⟩ => ⟨w.heap.size, e1, ?_⟩
  refine (open_none w.heap.size (Fs.new 4194304) (fun q => q = w.heap.size) 0 nmL w1 hF1 rfl (by omega) (by decide) (by decide) (fun _ _ h => by cases h) (fun _ h => by cases h) rfl).mono fun e w2 ⟨j, e2, hj, hJ2, hb2⟩ => ⟨j, e2, ?_⟩
  have hB2 : Below w.heap.size w w2 := hb1.trans (hb2.mono hb1.size)
  have hz1 := hb1.size
  have hz2 := hb2.size
  have hba : Below w2.heap.size w2 (w2.alloc (.cells #[.slice none 0 0, .slice none 0 0] 36)) := (Below.refl _ _).alloc (Nat.le_refl _) _
  have hjl := hJ2.ult
  refine ⟨Fs.new 4194304, ⟨[], [], 0, false⟩, _, fun q => q = w2.heap.size, 0, ⟨hJ2.below hba, ⟨fun _ => False, fun _ => False, .slice none 0 0, .slice none 0 0, heap_alloc_new _ _, GL.nil _ _, Recs.nil _ _, fun _ o => o.elim, id, fun _ o => o.elim, fun _ o => o.elim, rfl, fun q o => by rw [o]; simp⟩, fun q o e => ?_, hB2.trans (hba.mono hB2.size), ?_, fun q o => by omega⟩, ⟨rfl, rfl, rfl, fun _ _ => rfl, .inl ⟨rfl, rfl, rfl⟩, rfl, rfl, by omega, by simp [wt, wts], by simp [cnt], by simp⟩⟩
  · have := hjl q o; omega
  · rintro q (o | o) <;> omega
/-- One step, and what is held against the document behind it. -/
theorem plays_step (w W : World) (f r j i n : Nat) (K N : Int) (a : Option Addr) (c : Nat) (B : List UInt8) (h : PI w W f r j i n) (hrow : Row w.heap.size w (.slice a B.length c) B) (hi : i < 100) (hn : n + B.length ≤ 12000) :
    Calls Tryz.prog 17 #[.pointer (some ⟨f, 0, none⟩), .pointer (some ⟨j, 0, none⟩), .pointer (some ⟨r, 0, none⟩), .agg #[.int .i64 K, .int .i64 N, .slice a B.length c]] W fun e W1 => ∃ j', e = .returned (.tuple #[.pointer (some ⟨j', 0, none⟩), .bool true]) ∧ Hid (Calls Tryz.prog 18 #[.pointer (some ⟨j', 0, none⟩)] W1 fun e W2 => ∃ b L Lv, e = .returned (.slice (some ⟨b, 0, none⟩) L L) ∧ L ≤ 100000 ∧ W2.cell? ⟨r, 0, none⟩ = some Lv ∧ Hid (Calls Tryz.prog 19 #[.slice (some ⟨b, 0, none⟩) L L, Lv] W2 fun e W3 => e = .returned (.bool true) ∧ Hid (∃ (Q : World → Prop) (l : Nat → Nat), Q W3 ∧ (∀ W k, Q W → k < L → ∃ bk, W.cell? ⟨b, k, none⟩ = some (.slice (some ⟨bk, 0, none⟩) (l k) (l k)) ∧ l k ≤ 100000 ∧ ∀ m, m < l k → ∃ x, W.cell? ⟨bk, m, none⟩ = some x ∧ Calls Tryz.prog 20 #[x] W fun e W' => e = .returned (.tuple #[]) ∧ Q W') ∧ ∀ W, Q W → PI w W f r j' (i + 1) (n + B.length)))) := by
  refine (does_any w W f r j i n K N a c B h hrow hi hn).mono fun e W1 ⟨j', e1, hPI⟩ => ⟨j', e1, ?_⟩
  obtain ⟨S, J, U, V, k, hP, hF⟩ := hPI
  have f1 := hF.hw
  have f2 := hF.hc
  have f3 := hF.hg
  obtain ⟨Of, O, OL, gv, lv, qs, _, hJn, _⟩ := id hP.js
  have hd1 : ∀ d ∈ J.G, d.length ≤ 100000 ∧ wt d ≤ 10000000 := fun d hd => ⟨by have := cnt_mem hd; omega, by have := wts_mem hd; omega⟩
  refine (groups_ok j' f nmL J O gv lv qs W1 hJn.gm (by omega) hd1).mono fun e W2 ⟨e2, hCp⟩ => ?_
  have hP2 := hP.below hCp.bel
  obtain ⟨VL, VD, Lv, Dv, hb, hL, _⟩ := id hP2.rj
  refine ⟨W1.heap.size, J.G.length, Lv, e2, by omega, (RJ.cells hb).1, ?_⟩
  have hrr : RR W2 Lv J.G := hL.rr
  obtain ⟨la, lc, eL⟩ := hL.shape
  subst eL
  refine (groups_true _ _ _ _ J.G W2 hCp.rr hrr (by omega) (fun ds hds => ⟨(hd1 ds hds).1, fun x hx => by have := wt_mem hx; have := (hd1 ds hds).2; omega⟩)).mono fun e W3 ⟨e3, q, hq⟩ => ⟨e3, ?_⟩
  have hB3 : Below W1.heap.size W1 W3 := by rw [hq]; exact ⟨hCp.bel.os, hCp.bel.tape, hCp.bel.output, hCp.bel.size, hCp.bel.block⟩
  have hS3 : SPg W1.heap.size W3 W1.heap.size J.G := by
    obtain ⟨cur, h1, h2⟩ := hCp.spg
    rw [hq]
    exact ⟨cur, h1, h2⟩
  refine ⟨fun W => SPg W1.heap.size W W1.heap.size J.G ∧ Below W1.heap.size W1 W, fun k => (J.G.getD k []).length, ⟨hS3, hB3⟩, ?_, ?_⟩
  · rintro W k ⟨hS, hB⟩ hk
    obtain ⟨cur, h1, h2⟩ := id hS
    have hg : J.G[k]? = some J.G[k] := List.getElem?_eq_getElem hk
    have hgd : J.G.getD k [] = J.G[k] := by rw [List.getD_eq_getElem?_getD, hg]; rfl
    obtain ⟨bk, h3, cur2, h4, h5⟩ := h2 k _ hg
    simp only [hgd]
    refine ⟨bk, by simp only [World.cell?, h1]; exact h3, (hd1 _ (List.getElem_mem hk)).1, fun m hm => ?_⟩
    obtain ⟨x, h6, h7⟩ := h5 m _ (List.getElem?_eq_getElem hm)
    refine ⟨x, by simp only [World.cell?, h4]; exact h6, ?_⟩
    have hlen : (J.G[k][m]).length ≤ 2000000 := by
      have := wt_mem (List.getElem_mem hm)
      have := (hd1 _ (List.getElem_mem hk)).2
      have := wts_mem (List.getElem_mem hk)
      omega
    refine (spoil_free W1.heap.size x _ W h7 hB.size hlen).mono fun e W' ⟨e4, hsp⟩ => ⟨e4, hS.spd hsp, ?_⟩
    exact ⟨hsp.os.trans hB.os, hsp.tape.trans hB.tape, hsp.output.trans hB.output, Nat.le_trans hB.size hsp.size, fun b hb => (hsp.same b (Nat.lt_of_lt_of_le hb hB.size) (.inl hb)).trans (hB.block b hb)⟩
  · rintro W ⟨_, hB⟩
    exact ⟨S, J, U, V, k, hP.below hB, hF⟩
set_option maxRecDepth 20000 in
set_option maxHeartbeats 2000000 in
theorem plays_ok (a : Option Addr) (len c : Nat) (X : Nat → Stp) (w : World) (hX : StepsAt w a len X) : Calls Tryz.prog 3 #[.slice a len c] w fun e w' => e = .returned (.bool true) ∧ Below w.heap.size w w' := by
  have HH := hide (heavy_ok a len c X w hX)
  have HK : Hid (∀ W, Below w.heap.size w W → Calls Tryz.prog 14 #[] W fun e w' => e = .returned (.bool true) ∧ Hid (Below w.heap.size w w')) := fun W hb => (known_ok W).mono fun e w' ⟨e1, hb2⟩ => ⟨e1, hb.trans (hb2.mono hb.size)⟩
  have HB := hide (Below.refl w.heap.size w)
  obtain ⟨M, hM⟩ : ∃ M, M = min len 100 := ⟨_, rfl⟩
  rw [← hM] at HH
  by_cases hT : 12000 < tot X M
  · rw [decide_eq_true hT] at HH
    clear hX hM hT
    go_enter Tryz.func3, Tryz.ntmps3
    go_wp2_with fail
    refine (unhide HH).mono ?_
    rintro e w' ⟨rfl, rfl⟩
    go_wp2_with fail
    refine (unhide HK _ (unhide HB)).mono ?_
    rintro e w1 ⟨rfl, HB1⟩
    go_wp2_with fail
    go_ret
    exact ⟨rfl, unhide HB1⟩
  · rw [decide_eq_false hT] at HH
    have HSt := hide (plays_start w)
    have HRd : Hid (∀ W f r j i, PI w W f r j i (tot X i) → i < M → ∃ g o K N sa sl sc, a = some ⟨g, o, none⟩ ∧ W.cell? ⟨g, o + i * 3, none⟩ = some (.int .i64 K) ∧ W.cell? ⟨g, o + i * 3 + 1, none⟩ = some (.int .i64 N) ∧ W.cell? ⟨g, o + i * 3 + 2, none⟩ = some (.slice sa sl sc) ∧ Hid (Calls Tryz.prog 17 #[.pointer (some ⟨f, 0, none⟩), .pointer (some ⟨j, 0, none⟩), .pointer (some ⟨r, 0, none⟩), .agg #[.int .i64 K, .int .i64 N, .slice sa sl sc]] W fun e W1 => ∃ j', e = .returned (.tuple #[.pointer (some ⟨j', 0, none⟩), .bool true]) ∧ Hid (Calls Tryz.prog 18 #[.pointer (some ⟨j', 0, none⟩)] W1 fun e W2 => ∃ b L Lv, e = .returned (.slice (some ⟨b, 0, none⟩) L L) ∧ L ≤ 100000 ∧ W2.cell? ⟨r, 0, none⟩ = some Lv ∧ Hid (Calls Tryz.prog 19 #[.slice (some ⟨b, 0, none⟩) L L, Lv] W2 fun e W3 => e = .returned (.bool true) ∧ Hid (∃ (Q : World → Prop) (l : Nat → Nat), Q W3 ∧ (∀ W k, Q W → k < L → ∃ bk, W.cell? ⟨b, k, none⟩ = some (.slice (some ⟨bk, 0, none⟩) (l k) (l k)) ∧ l k ≤ 100000 ∧ ∀ m, m < l k → ∃ x, W.cell? ⟨bk, m, none⟩ = some x ∧ Calls Tryz.prog 20 #[x] W fun e W' => e = .returned (.tuple #[]) ∧ Q W') ∧ ∀ W, Q W → PI w W f r j' (i + 1) (tot X (i + 1))))))) := fun W f r j i hPI hi => by
      have hbl : Below w.heap.size w W := by obtain ⟨_, _, _, _, _, hP, _⟩ := hPI; exact hP.bel
      obtain ⟨g, o, ea, h0, h1, h2, h3, h4⟩ := hX i (by omega)
      have hle := tot_le X (show i + 1 ≤ M by omega)
      unfold Stp.v at h2 h3
      exact ⟨g, o, (X i).K, (X i).N, (X i).a, (X i).B.length, (X i).c, ea, by rw [hbl.cell (p := ⟨g, o + i * 3, none⟩) (cellLt h0)]; exact h0, by rw [hbl.cell (p := ⟨g, o + i * 3 + 1, none⟩) (cellLt h1)]; exact h1, by rw [hbl.cell (p := ⟨g, o + i * 3 + 2, none⟩) (cellLt h2)]; exact h2, plays_step w W f r j i (tot X i) _ _ _ _ _ hPI h3 (by omega) (by simp only [tot] at hle; omega)⟩
    have HEnd : Hid (∀ W f r j i n, PI w W f r j i n → Below w.heap.size w W) := fun W f r j i n h => by obtain ⟨_, _, _, _, _, hP, _⟩ := h; exact hP.bel
    have HM := hide hM
    clear hX hM hT HB
    go_enter Tryz.func3, Tryz.ntmps3
    go_wp2_with fail
    refine (unhide HH).mono ?_
    rintro e w' ⟨rfl, rfl⟩
    clear HH
    go_wp2_with fail
    refine (unhide HSt).mono ?_
    rintro e w1 ⟨f, rfl, H1⟩
    clear HSt
    go_wp2_with fail
    refine (unhide H1).mono ?_
    rintro e w2 ⟨j0, rfl, H2⟩
    clear H1
    go_wp2_with fail
    obtain ⟨r, hr⟩ : ∃ r, r = w2.heap.size := ⟨_, rfl⟩
    rw [← hr] at H2 ⊢
    obtain ⟨W0, hW0⟩ : ∃ W0, W0 = w2.alloc (.cells #[.slice none 0 0, .slice none 0 0] 36) := ⟨_, rfl⟩
    rw [← hW0] at H2 ⊢
    clear hr hW0
    go_loopw [8, 5] (fun iv jv wr => ∃ i jj : Nat, i ≤ M ∧ iv = .int .i64 (i : Int) ∧ jv = .pointer (some ⟨jj, 0, none⟩) ∧ Hid (PI w' wr f r jj i (tot X i))) (fun iv _ _ => M - (intOf iv).toNat)
    case atStart => exact ⟨0, j0, Nat.zero_le _, rfl, rfl, unhide H2⟩
    case round =>
      clear H2
      obtain ⟨i, jj, hi, rfl, rfl, hP⟩ := hrel
      by_cases hlt : i < M
      · have hM := unhide HM
        obtain ⟨g, o, K, N, sa, sl, sc, ea, s0, s1, s2, HD⟩ := unhide HRd wr f r jj i (unhide hP) hlt
        subst ea
        have hk1 : (i : Int) < (len : Int) := by omega
        have hk2 : (i : Int) < 100 := by omega
        have HLt := hide (And.intro hlt hi)
        clear hM hlt hi HRd hP
        go_wp2_with fail
        refine (unhide HD).mono ?_
        rintro e W1 ⟨j', rfl, HG⟩
        clear HD s0 s1 s2
        go_wp2_with fail
        refine (unhide HG).mono ?_
        rintro e W2 ⟨b, L, Lv, rfl, hLb, hLv, HT⟩
        clear HG
        go_wp2_with fail
        refine (unhide HT).mono ?_
        rintro e W3 ⟨rfl, HQ⟩
        clear HT hLv
        obtain ⟨Q, l, hQ3, hQr, hQe⟩ := unhide HQ
        have HQ3 := hide hQ3
        have HQr := hide hQr
        have HQe := hide hQe
        clear HQ hQ3 hQr hQe
        go_wp2_with fail
        go_loopw [11] (fun kv wr => ∃ k : Nat, k ≤ L ∧ kv = .int .i64 (k : Int) ∧ Hid (Q wr)) (fun kv _ => L - (intOf kv).toNat)
        case atStart => exact ⟨0, Nat.zero_le _, rfl, unhide HQ3⟩
        case round =>
          clear HQ3
          obtain ⟨k, hk, rfl, hQ⟩ := hrel
          by_cases hkl : k < L
          · have hkli : (k : Int) < (L : Int) := by omega
            have hLbi : (L : Int) ≤ 100000 := by omega
            go_wp2_with fail
            go_loopw [12] (fun mv wr => ∃ m : Nat, m ≤ l k ∧ mv = .int .i64 (m : Int) ∧ Hid (Q wr)) (fun mv _ => l k - (intOf mv).toNat)
            case atStart => exact ⟨0, Nat.zero_le _, rfl, unhide hQ⟩
            case round =>
              clear hQ
              obtain ⟨m, hm, rfl, hQ⟩ := hrel
              obtain ⟨bk, hc1, hlk, hrec⟩ := unhide HQr _ k (unhide hQ) hkl
              obtain ⟨LK, hLK⟩ : ∃ LK, LK = l k := ⟨_, rfl⟩
              rw [← hLK] at hm hc1 hlk hrec ⊢
              by_cases hml : m < LK
              · obtain ⟨x, hx, hcal⟩ := hrec m hml
                have HCal := hide hcal
                have hmi : (m : Int) < (LK : Int) := by omega
                have hLKi : (LK : Int) ≤ 100000 := by omega
                clear hcal hrec hQ
                go_wp2_with fail
                refine (unhide HCal).mono ?_
                rintro e W4 ⟨rfl, hQ4⟩
                have HQ4 := hide hQ4
                clear hQ4 HCal
                go_wp2_with fail
                refine ⟨⟨m + 1, by omega, by simp, unhide HQ4⟩, ?_⟩
                simp [intOf]; omega
              · have hmi : ¬ ((m : Int) < (LK : Int)) := by omega
                clear hrec
                go_wp2_with fail
                refine ⟨⟨k + 1, by omega, by simp, unhide hQ⟩, ?_⟩
                simp [intOf]; omega
          · have hkli : ¬ ((k : Int) < (L : Int)) := by omega
            obtain ⟨hlt, hi⟩ := unhide HLt
            have HPI := hide (unhide HQe _ (unhide hQ))
            clear hlt hi
            go_wp2_with fail
            obtain ⟨hlt, hi⟩ := unhide HLt
            refine ⟨⟨i + 1, j', by omega, by simp, rfl, unhide HPI⟩, ?_⟩
            simp [intOf]; omega
      · have hM := unhide HM
        have HBW := hide (unhide HEnd _ _ _ _ _ _ (unhide hP))
        have hMi : i = M := by omega
        by_cases hl : i < len
        · have hk1 : (i : Int) < (len : Int) := by omega
          have hk2 : ¬ ((i : Int) < 100) := by omega
          clear hM hlt hi HRd hP hMi HEnd
          go_wp2_with fail
          refine (unhide HK _ (unhide HBW)).mono ?_
          rintro e w9 ⟨rfl, HB9⟩
          go_wp2_with fail
          go_ret
          exact ⟨rfl, unhide HB9⟩
        · have hk1 : ¬ ((i : Int) < (len : Int)) := by omega
          clear hM hlt hi HRd hP hMi HEnd
          go_wp2_with fail
          refine (unhide HK _ (unhide HBW)).mono ?_
          rintro e w9 ⟨rfl, HB9⟩
          go_wp2_with fail
          go_ret
          exact ⟨rfl, unhide HB9⟩
end Go.Proofs.YtebcmicmklpflaaGreatDoor
