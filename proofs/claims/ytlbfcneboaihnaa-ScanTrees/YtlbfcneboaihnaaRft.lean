/- The document's own TreeRefs. -/
import Derived.Test.YtlbfcneboaihnaaTrf
import Derived.Test.YtlbfcneboaihnaaRst
import Derived.Deep.RegionLaw
namespace Go.Proofs.Ytlbfcneboaihnaa
open Go.RowKit Go.Great
set_option linter.unusedSimpArgs false
theorem one_way {P G : Prop} (all : P) (go : Hid P → G) : G := go all
theorem rises_refsT {R of : List Ord.S} {L : List (List Nat)} (h : Ord.Rises R) (hm : ∀ x, x ∈ R ↔ x ∈ of ∧ FoundT L x) : R = refsT L of := Ord.rises_eq h (refsT_rises _ _) fun x => by rw [hm, refsT_mem]
theorem foundT_append (L M : List (List Nat)) (x : Ord.S) : FoundT (L ++ M) x ↔ FoundT L x ∨ FoundT M x := by
  unfold FoundT
  rw [standsIn_append]
  constructor
  · rintro ⟨h1, h2 | h2⟩
    · exact .inl ⟨h1, h2⟩
    · exact .inr ⟨h1, h2⟩
  · rintro (h | h)
    · exact ⟨h.1, .inl h.2⟩
    · exact ⟨h.1, .inr h.2⟩
theorem foundT_one (B : List Nat) (x : Ord.S) : FoundT [B] x ↔ FoundIn B x := by
  unfold FoundT FoundIn
  rw [standsIn_cons]
  simp [StandsIn]
set_option maxRecDepth 20000 in
set_option maxHeartbeats 2000000 in
theorem refsTr_any (T : Tn.Tr) : ∀ (lo hi : Nat) (cs : List Value) (a' : Option Addr) (m c' : Nat) (of : List Ord.S) (w : World), Tn.Lies lo hi w T cs → Tn.Fit T → Tn.Vld T → hi ≤ w.heap.size →
    StrsAt w (.slice a' m c') of → of.length = m → (∀ z ∈ of, z.length ≤ 281474976710656) → m ≤ 1000 →
    Calls Try.prog 34 #[.agg cs.toArray, .slice a' m c'] w fun e w' => ∃ u, e = .returned u ∧ RowR w' u (refsT (pcs T) of) ∧ Below w.heap.size w w' := by
  induction T using Tn.Tr.ind with
  | h k x d ns ks ih =>
  intro lo hi cs a' m c' of w hL hF hV hhi hx hm hz hmax
  have hSm := Tn.small_of hF
  obtain ⟨hv0, hvk⟩ := hV.here
  obtain ⟨hd20, hnk, hok⟩ := Tn.loc_ok hv0
  cases hL with
  | mk _ _ _ _ _ vd vn vk Ks hl hd hn hk hK =>
  obtain ⟨ad, cd, rfl, hcd⟩ := hd.slice
  obtain ⟨an, cn', rfl, hcn⟩ := hn.slice
  obtain ⟨ak, ck, rfl, hck⟩ := hk.slice
  obtain ⟨N, hN⟩ : ∃ N, ks.length = N := ⟨_, rfl⟩
  have hM : ns.length = N := hnk.trans hN
  obtain ⟨M, hMd⟩ : ∃ M, d.size = M := ⟨_, rfl⟩
  obtain ⟨wA, hwA⟩ : ∃ wA, wA = w.alloc (.cells #[.int .i64 k, .bool x, .slice ad M cd, .slice an N cn', .slice ak N ck] 34) := ⟨_, rfl⟩
  have hbA : Below w.heap.size w wA := by rw [hwA]; exact (Below.refl _ _).alloc (Nat.le_refl _) _
  have hsA : wA.heap.size = w.heap.size + 1 := by rw [hwA]; simp
  have hxA : wA.heap[w.heap.size]? = some (.cells #[.int .i64 k, .bool x, .slice ad M cd, .slice an N cn', .slice ak N ck] 34) := by rw [hwA]; exact Tn.bx_new w _ _ _ _ _
  have hdA := row_bytes (hd.below hbA hhi) (by omega)
  rw [hMd] at hdA
  have HRf := hide (refsRefO_any ad M cd (bytesOf d) a' m c' of wA hdA (bytesOf_bytes d) (by rw [bytesOf_length]; exact hMd) (by omega) (hx.below hbA) hm hz (by omega))
  have HA := hide (And.intro hbA (And.intro hsA hxA))
  have HwA := hide hwA
  have HR := hide (And.intro hn (And.intro hk (And.intro hl (And.intro hK (And.intro hN hM)))))
  have HV := hide (And.intro hvk (And.intro hSm hok))
  have HIH := hide ih
  have HOf := hide (And.intro hx (And.intro hm hz))
  have hNb : N ≤ 1599289640401 := by have h1 := hSm.k; omega
  rw [hN, hM, hMd]
  rw [hN] at hck
  rw [hM] at hcn
  clear hd hn hk hl hK hF hV hSm hvk hv0 hok ih hbA hxA hdA hwA hsA hnk hN hM hMd hcd hd20 hx hm hz
  go_enter Try.func34, Try.ntmps34
  go_wp2_with fail
  rw [← unhide HwA]
  refine (unhide HRf).mono ?_
  rintro e w1 ⟨u1, rfl, hR1, hb1, ho1⟩
  have hx1 : w1.heap[w.heap.size]? = some (.cells #[.int .i64 k, .bool x, .slice ad M cd, .slice an N cn', .slice ak N ck] 34) := by
    rw [hb1.block _ (by have := (unhide HA).2.1; omega)]; exact (unhide HA).2.2
  have hbw1 : Below w.heap.size w w1 := (unhide HA).1.trans (hb1.mono (unhide HA).1.size)
  rw [← refsT_one] at hR1
  have HR1 := hide (And.intro hR1 hbw1)
  have HX1 := hide hx1
  clear HRf hR1 hb1 ho1 hbw1 HwA HA hx1
  go_wp2_with fail
  go_loopw [5, 6] (fun vo vi wr => ∃ (i : Nat) (L : List (List Nat)), i ≤ N ∧ vi = .int .i64 (i : Int) ∧ Hid (bytesOf d :: pcz ns ks = L ++ pcz (ns.drop i) (ks.drop i)) ∧ Hid (RowR wr vo (refsT L of) ∧ Below w.heap.size w wr) ∧ wr.heap[w.heap.size]? = some (.cells #[.int .i64 k, .bool x, .slice ad M cd, .slice an N cn', .slice ak N ck] 34)) (fun _ vi _ => N - (intOf vi).toNat)
  case atStart => exact ⟨0, [bytesOf d], by omega, rfl, rfl, HR1, unhide HX1⟩
  case round =>
    obtain ⟨i, L, hiN, rfl, HP, HL, hx⟩ := hrel
    by_cases hlt : i < N
    · obtain ⟨hn, hk, hl, hK, hN, hM⟩ := unhide HR
      obtain ⟨hvk, hSm, hok⟩ := unhide HV
      obtain ⟨hRr, hbr⟩ := unhide HL
      have hzr := (Array.getElem?_eq_some_iff.1 hx).1
      have hin : i < ns.length := by omega
      have hik : i < ks.length := by omega
      have hst := pcz_step hin hik
      obtain ⟨gn, on, rfl, hgn1, hgn2, hcelln⟩ := hn.at (by omega)
      have hcn1 : wr.cell? ⟨gn, on + i, none⟩ = some (.string ns[i]) := by
        rw [hbr.cell (p := ⟨gn, on + i, none⟩) (by show gn < _; omega)]
        exact hcelln i _ (by rw [List.getElem?_map, List.getElem?_eq_getElem hin]; rfl)
      have hent : ns[i].size ≤ 100 := by
        have h1 := hok (by omega) i hin
        unfold Tn.okName at h1
        rw [List.getElem?_eq_getElem hin] at h1
        simp only [Bool.and_eq_true] at h1
        exact (of_decide_eq_true h1.1).2.1
      have hvi : Tn.Vld ks[i] := hvk _ (List.getElem_mem hik)
      have hfi : Tn.Fit ks[i] := hSm.t _ (List.getElem_mem hik)
      obtain ⟨gk, ok, rfl, hgk1, hgk2, hcellk⟩ := hk.at (by omega)
      have HIi := hide (unhide HIH ks[i] (List.getElem_mem hik))
      obtain ⟨q0, q1, f1, g1, h1, f2, g2, h2, f3, g3, h3, hLi, m0, m1, m2, m3, m4⟩ := Tn.kid_sl hl (fun j u hj => by rw [hbr.cell (p := ⟨gk, ok + j, none⟩) (by show gk < _; omega)]; exact hcellk j u hj) (fun i t c h1 h2 => (hK i t c h1 h2).kept hbr hhi) i hik
      obtain ⟨nm, hnm⟩ : ∃ nm, ns[i] = nm := ⟨_, rfl⟩
      obtain ⟨t, hkd⟩ : ∃ t, ks[i] = t := ⟨_, rfl⟩
      rw [hst, hnm, hkd] at HP
      rw [hnm] at hcn1 hent
      rw [hkd] at hvi hfi HIi hLi
      clear hst hcelln hcellk hn hk hl hK hvk hSm hok hnm hkd hin
      have hbd : Below wr.heap.size wr wr.drew := (Below.refl _ _).drew
      obtain ⟨cap, w2, hr2, hb2, hat2, hz2⟩ := run_cvB wr.drew nm
      have hb2' : Below wr.heap.size wr w2 := hbd.trans hb2
      have hbw2 : Below w.heap.size w w2 := hbr.trans (hb2'.mono hbr.size)
      have hmk : ∀ W, Below wr.heap.size wr W → W.cell? ⟨gk, ok + i * 5, none⟩ = some (.int .i64 q0) ∧ W.cell? ⟨gk, ok + i * 5 + 1, none⟩ = some (.bool q1) ∧ W.cell? ⟨gk, ok + i * 5 + 2, none⟩ = some (.slice f1 g1 h1) ∧ W.cell? ⟨gk, ok + i * 5 + 3, none⟩ = some (.slice f2 g2 h2) ∧ W.cell? ⟨gk, ok + i * 5 + 4, none⟩ = some (.slice f3 g3 h3) := fun W hW => by
        refine ⟨?_, ?_, ?_, ?_, ?_⟩
        · rw [hW.cell (p := ⟨gk, ok + i * 5, none⟩) (cell_lt m0)]; exact m0
        · rw [hW.cell (p := ⟨gk, ok + i * 5 + 1, none⟩) (cell_lt m1)]; exact m1
        · rw [hW.cell (p := ⟨gk, ok + i * 5 + 2, none⟩) (cell_lt m2)]; exact m2
        · rw [hW.cell (p := ⟨gk, ok + i * 5 + 3, none⟩) (cell_lt m3)]; exact m3
        · rw [hW.cell (p := ⟨gk, ok + i * 5 + 4, none⟩) (cell_lt m4)]; exact m4
      have hxk : ∀ W, Below wr.heap.size wr W → W.heap[w.heap.size]? = some (.cells #[.int .i64 k, .bool x, .slice ad M cd, .slice (some ⟨gn, on, none⟩) N cn', .slice (some ⟨gk, ok, none⟩) N ck] 34) := fun W hW => by rw [hW.block _ hzr]; exact hx
      have HMK := hide hmk
      have HXK := hide hxk
      have HRf := hide (refsRefO_any (some ⟨wr.drew.heap.size, 0, none⟩) nm.size cap (bytesOf nm) a' m c' of w2 hat2 (bytesOf_bytes nm) (bytesOf_length nm) (by omega) ((unhide HOf).1.below hbw2) (unhide HOf).2.1 (unhide HOf).2.2 (by omega))
      have HKd := hide (fun W (hW : Below wr.heap.size wr W) => unhide HIi lo hi _ a' m c' of W (hLi.kept hW (by have := hbr.size; omega)) hfi hvi (by have := hbr.size; have := hW.size; omega) (((unhide HOf).1.below hbr).below hW) (unhide HOf).2.1 (unhide HOf).2.2 hmax)
      have HB2 := hide hb2'
      obtain ⟨y0, y1, y2, y3, y4⟩ := box_cells hx
      obtain ⟨z0, z1, z2, z3, z4⟩ := box_cells (hxk w2 hb2')
      obtain ⟨n0, n1, n2, n3, n4⟩ := hmk w2 hb2'
      have hcn2 : w2.cell? ⟨gn, on + i, none⟩ = some (.string nm) := by rw [hb2'.cell (p := ⟨gn, on + i, none⟩) (cell_lt hcn1)]; exact hcn1
      have HRr := hide (And.intro hRr hbr)
      clear hbd hb2 hb2' hbw2 hat2 hz2 hmk hxk hLi hfi hvi hRr hbr HL hx hzr HIi
      have hof := (unhide HOf).2.1
      have HAp : Hid (∀ (u3 u4 : Value) (w3 w4 : World), OwnL w3 w2.heap.size u3 (refsOf (bytesOf nm) of) → w2.heap.size ≤ w3.heap.size → Below w3.heap.size w3 w4 → StrsAt w4 u4 (refsT (pcs t) of) → ∃ v5 w5, (app38 23 #[u3, u4]).run Try.prog w4 = .ok v5 w5 ∧ StrsAt w5 v5 (refsOf (bytesOf nm) of ++ refsT (pcs t) of) ∧ Below w2.heap.size w4 w5) := fun u3 u4 w3 w4 h1 h2 h3 h4 => by
        have h5 := ownL_keep h1 fun k _ hk => h3.block k hk
        obtain ⟨a4, c4, rfl, _⟩ := id h4
        obtain ⟨v5, w5, hr5, ho5, hb5, _⟩ := appS w4 w2.heap.size u3 _ a4 _ c4 _ 23 rfl h5 h4 (by have := refsOf_length (bytesOf nm) of; have := refsT_length (pcs t) of; omega) (by have := h3.size; omega)
        exact ⟨v5, w5, hr5, ho5.at, hb5⟩
      clear hof
      go_wp2_with fail
      apply one_way
      case go =>
        intro key
        go_region_law (first | (go_simp; refine (unhide HRf).mono ?_; rintro e w3 ⟨u3, rfl, hR3, hb3, ho3⟩; have hb3' := (unhide HB2).trans (hb3.mono (unhide HB2).size); obtain ⟨z0', z1', z2', z3', z4'⟩ := box_cells (unhide HXK w3 hb3'); obtain ⟨n0', n1', n2', n3', n4'⟩ := unhide HMK w3 hb3'; simp only []) | (go_simp; refine (unhide HKd w3 hb3').mono ?_; rintro e w4 ⟨u4, rfl, hR4, hb4⟩; obtain ⟨v5, w5, hr5, hs5, hb5⟩ := unhide HAp u3 u4 w3 w4 ho3 hb3.size hb4 hR4.1; simp only []))
        all_goals
          have hbz : Below wr.heap.size wr w5 := (hb3'.trans (hb4.mono hb3'.size)).trans (hb5.mono (unhide HB2).size)
          revert hs5 hbz
          clear hr5 hb5 hb4 hR4 hb3 hb3' hR3 ho3 z0' z1' z2' z3' z4' n0' n1' n2' n3' n4'
          revert v5 w5 u4 u3
          exact unhide key
      case all =>
        intro u3 u4 v5 w5 hs5 hbz
        obtain ⟨al, nl, cl, rfl, hnl⟩ : ∃ al nl cl, v5 = .slice al nl cl ∧ (refsOf (bytesOf nm) of ++ refsT (pcs t) of).length = nl := by
          obtain ⟨al, cl, e, _⟩ := id hs5
          exact ⟨al, _, cl, e, rfl⟩
        have hnlb : nl ≤ 2000 := by
          have h1 := refsOf_length (bytesOf nm) of
          have h2 := refsT_length (pcs t) of
          have h3 := (unhide HOf).2.1
          rw [List.length_append] at hnl
          omega
        have HNL := hide hnl
        have HLm : Hid (∀ y ∈ refsOf (bytesOf nm) of ++ refsT (pcs t) of, y ∈ of) := fun y hy => by
          rcases List.mem_append.1 hy with h | h
          · exact ((refsOf_mem _ _ _).1 h).1
          · exact ((refsT_mem _ _ _).1 h).1
        have HFin : Hid (∀ R, Ord.Rises R → (∀ y, y ∈ R ↔ y ∈ refsT L of ∨ y ∈ refsOf (bytesOf nm) of ++ refsT (pcs t) of) → R = refsT (L ++ [bytesOf nm] ++ pcs t) of) := fun R h1 h2 => by
          refine rises_refsT h1 fun y => ?_
          rw [h2, List.mem_append, refsT_mem, refsOf_mem, refsT_mem, foundT_append, foundT_append, foundT_one]
          constructor
          · rintro (h | h | h)
            · exact ⟨h.1, .inl (.inl h.2)⟩
            · exact ⟨h.1, .inl (.inr h.2)⟩
            · exact ⟨h.1, .inr h.2⟩
          · rintro ⟨h, (h2 | h2) | h2⟩
            · exact .inl ⟨h, h2⟩
            · exact .inr (.inl ⟨h, h2⟩)
            · exact .inr (.inr ⟨h, h2⟩)
        have HP4 : Hid (bytesOf d :: pcz ns ks = L ++ [bytesOf nm] ++ pcs t ++ pcz (ns.drop (i + 1)) (ks.drop (i + 1))) := by
          show _ = _
          rw [unhide HP]; simp
        have HS5 := hide (And.intro hs5 hbz)
        have HR0 : Hid (∃ R, RowR w5 u5 R ∧ (∀ y, y ∈ R ↔ y ∈ refsT L of ∨ y ∈ (refsOf (bytesOf nm) of ++ refsT (pcs t) of).take 0) ∧ Below w5.heap.size w5 w5) := ⟨_, (unhide HRr).1.below hbz, fun y => by simp, Below.refl _ _⟩
        have HX5 : Hid (∀ W, Below w5.heap.size w5 W → W.heap[w.heap.size]? = some (.cells #[.int .i64 k, .bool x, .slice ad M cd, .slice (some ⟨gn, on, none⟩) N cn', .slice (some ⟨gk, ok, none⟩) N ck] 34) ∧ Below w.heap.size w W) := fun W hW => by
          have h1 : Below wr.heap.size wr W := hbz.trans (hW.mono hbz.size)
          exact ⟨unhide HXK W h1, (unhide HRr).2.trans (h1.mono (unhide HRr).2.size)⟩
        have HOL := hide (unhide HOf).2.1
        clear hs5 hbz hnl HRf HKd HB2 HAp HMK HXK HRr HP hr2 y0 y1 y2 y3 y4 z0 z1 z2 z3 z4 n0 n1 n2 n3 n4 m0 m1 m2 m3 m4 hcn1 hcn2 HR1 HX1
        generalize refsOf (bytesOf nm) of ++ refsT (pcs t) of = LL at *
        go_wp2_with fail
        go_loopw [5, 8] (fun vo vk wq => ∃ j : Nat, j ≤ nl ∧ vk = .int .i64 (j : Int) ∧ Hid (∃ R, RowR wq vo R ∧ (∀ y, y ∈ R ↔ y ∈ refsT L of ∨ y ∈ LL.take j) ∧ Below w5.heap.size w5 wq)) (fun _ vk _ => nl - (intOf vk).toNat)
        case atStart => exact ⟨0, by omega, rfl, HR0⟩
        case round =>
          obtain ⟨j, hjn, rfl, HJ⟩ := hrel
          obtain ⟨R, hRr, hRm, hRb⟩ := unhide HJ
          by_cases hjl : j < nl
          · obtain ⟨gq, oq, rfl, hcq⟩ := str_at ((unhide HS5).1.below hRb) (unhide HNL) j hjl
            have HTk : Hid (LL.take (j + 1) = LL.take j ++ [LL.getD j []]) := take_snoc (of := LL) (i := j) (by rw [unhide HNL]; exact hjl)
            generalize LL.getD j [] = qq at *
            have hRl : R.length ≤ m := by
              rw [← unhide HOL]
              refine rises_len hRr.2.1 fun y hy => ?_
              rcases (hRm y).1 hy with h | h
              · exact ((refsT_mem _ _ _).1 h).1
              · exact unhide HLm y (List.mem_of_mem_take h)
            have HLy := hide (lay_any u5 R qq wr hRr (by omega))
            have HRM := hide (And.intro hRm hRb)
            clear hRr hRm hRb HJ
            go_wp2_with fail
            refine (unhide HLy).mono ?_
            rintro e w6 ⟨u6, R6, rfl, hR6, hm6, hl6, hb6, _⟩
            have HN1 : Hid (∃ R, RowR w6 u6 R ∧ (∀ y, y ∈ R ↔ y ∈ refsT L of ∨ y ∈ LL.take (j + 1)) ∧ Below w5.heap.size w5 w6) := by
              refine ⟨R6, hR6, fun y => ?_, (unhide HRM).2.trans (hb6.mono (unhide HRM).2.size)⟩
              rw [hm6, (unhide HRM).1, unhide HTk, List.mem_append, List.mem_singleton]
              constructor
              · rintro (h | h | h)
                · exact .inr (.inr h)
                · exact .inl h
                · exact .inr (.inl h)
              · rintro (h | h | h)
                · exact .inr (.inl h)
                · exact .inr (.inr h)
                · exact .inl h
            clear hR6 hm6 hl6 hb6 HLy hcq HRM
            go_wp2_with fail
            exact ⟨⟨j + 1, by omega, rfl, HN1⟩, by simp [intOf]; omega⟩
          · obtain rfl : j = nl := by omega
            rw [List.take_of_length_le (by have := unhide HNL; omega)] at hRm
            have HE : Hid (RowR wr u5 (refsT (L ++ [bytesOf nm] ++ pcs t) of) ∧ Below w.heap.size w wr) := by
              have e := unhide HFin R hRr.2.1 hRm
              rw [← e]
              exact ⟨hRr, (unhide HX5 wr hRb).2⟩
            have HXq := hide (unhide HX5 wr hRb).1
            clear hRr hRm hRb HJ
            go_wp2_with fail
            exact ⟨⟨i + 1, _, by omega, rfl, HP4, HE, unhide HXq⟩, by simp [intOf]; omega⟩
    · obtain rfl : i = N := by omega
      have HE : Hid (RowR wr u5 (refsT (pcs (.mk k x d ns ks)) of) ∧ Below w.heap.size w wr) := by
        have h1 := unhide HP
        rw [pcz_end _ (by have := (unhide HR).2.2.2.2.2; omega), List.append_nil] at h1
        show RowR wr u5 (refsT (pcs (.mk k x d ns ks)) of) ∧ _
        rw [pcs, h1]; exact unhide HL
      obtain ⟨y0, y1, y2, y3, y4⟩ := box_cells hx
      go_wp2_with fail
      go_ret
      exact ⟨_, rfl, unhide HE⟩
end Go.Proofs.Ytlbfcneboaihnaa
