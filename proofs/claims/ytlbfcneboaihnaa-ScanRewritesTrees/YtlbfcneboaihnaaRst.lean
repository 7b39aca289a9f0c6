/- The document's own answer: do digits stand somewhere in bytes; which of some paths do. -/
import Derived.Test.YtlbfcneboaihnaaSam
namespace Go.Proofs.Ytlbfcneboaihnaa
open Go.RowKit Go.Great
set_option linter.unusedSimpArgs false
theorem piece_at {w : World} {g o n c : Nat} {B : List Nat} (h : BytesAt w (.slice (some ⟨g, o, none⟩) n c) B) (hn : B.length = n) (i k : Nat) (hi : i + k ≤ n) : BytesAt w (.slice (some ⟨g, o + i, none⟩) k (c - i)) ((B.drop i).take k) := by
  have hl : ((B.drop i).take k).length = k := by rw [List.length_take, List.length_drop]; omega
  have hcap := bytes_cap h
  refine ⟨_, c - i, by rw [hl], by omega, fun h0 => ?_⟩
  rw [hl] at h0
  obtain ⟨a', c', e, _, hx⟩ := h
  cases e
  obtain ⟨b, o', ea, hlt, hc⟩ := hx (by omega)
  cases ea
  refine ⟨g, o + i, rfl, hlt, fun j hj => ?_⟩
  rw [hl] at hj
  rw [Nat.add_assoc, hc (i + j) (by omega)]
  simp only [Sha.nth, List.getElem?_take, if_pos hj, List.getElem?_drop]
open Classical in
theorem stands_upto {B D : List Nat} {i : Nat} (h : ∀ k, k < i → (B.drop k).take D.length ≠ D) (hi : ¬ i + D.length ≤ B.length) : ¬ Stands B D := fun ⟨k, h1, h2⟩ => h k (by omega) h2
set_option maxRecDepth 20000 in
set_option maxHeartbeats 1000000 in
open Classical in
theorem standsRef_any (a : Option Addr) (n c : Nat) (B D : List Nat) (w : World) (hb : BytesAt w (.slice a n c) B) (hB : Sha.Bytes B) (hn : B.length = n) (hD : Sha.Bytes D) (hl : D.length = 32) (hmax : n ≤ 100000000) :
    Calls Try.prog 28 #[.slice a n c, .string (strOf D)] w fun e w' => (∃ q, w' = w.drewN q) ∧ e = .returned (.bool (decide (Stands B D))) := by
  have hds : (strOf D).size = 32 := by rw [strOf_size, hl]
  have HB := hide (And.intro hb (And.intro hB hn))
  have HD := hide (And.intro hD hl)
  clear hb hB hn hD
  go_enter Try.func28, Try.ntmps28
  go_wp2_with fail
  go_loopw [5] (fun vi wr => ∃ i : Nat, i ≤ n ∧ vi = .int .i64 (i : Int) ∧ (∃ q, wr = w.drewN q) ∧ Hid (∀ k, k < i → (B.drop k).take D.length ≠ D)) (fun vi _ => n + 1 - (intOf vi).toNat)
  case atStart => exact ⟨0, by omega, rfl, ⟨0, rfl⟩, fun j h => by omega⟩
  case round =>
    obtain ⟨i, hin, rfl, ⟨q, rfl⟩, hlo⟩ := hrel
    by_cases hlt : i + 32 ≤ n
    · obtain ⟨g, o, rfl, _⟩ := bytes_at (unhide HB).1 (unhide HB).2.2 i (by omega)
      have hp := piece_at (unhide HB).1 (unhide HB).2.2 i 32 hlt
      have hcap := bytes_cap (unhide HB).1
      have hcv := conv_at (w.drewN q) _ _ (show BytesAt (w.drewN q) (.slice (some ⟨g, o + i, none⟩) 32 (c - i)) ((B.drop i).take 32) from hp)
      have hci : ¬ (c = i) := by omega
      have hic : i + 32 ≤ c := by omega
      have e32 : ((i : Int) + 32).toNat - i = 32 := by omega
      have HPB : Hid (Sha.Bytes ((B.drop i).take 32)) := fun x hx => (unhide HB).2.1 x (List.mem_of_mem_drop (List.mem_of_mem_take hx))
      have HQ : Hid ((B.drop i).take D.length = (B.drop i).take 32) := by rw [hl]; exact rfl
      have hS : Hid ((B.drop i).take 32 = D → Stands B D) := fun e => ⟨i, by rw [hl, (unhide HB).2.2]; exact hlt, by rw [hl]; exact e⟩
      clear hp
      generalize (B.drop i).take 32 = P at *
      by_cases he : P = D
      · subst he
        have HE := hide (decide_eq_true (unhide hS rfl))
        clear hS hlo HQ
        go_wp2_with fail
        go_ret
        exact ⟨⟨_, rfl⟩, by rw [unhide HE]; rfl⟩
      · have hne : ((strOf P).toList == (strOf D).toList) = false := toList_ne (fun e => he (strOf_inj (unhide HPB) (unhide HD).1 e))
        have hlo' : Hid (∀ k, k < i + 1 → (B.drop k).take D.length ≠ D) := fun k hk => by
          rcases Nat.lt_or_ge k i with h | h
          · exact unhide hlo k h
          · obtain rfl : k = i := by omega
            rw [unhide HQ]; exact he
        clear hS hlo HQ he
        go_wp2_with fail
        exact ⟨⟨i + 1, by omega, rfl, ⟨_, rfl⟩, hlo'⟩, by simp [intOf]; omega⟩
    · have HE := hide (decide_eq_false (stands_upto (unhide hlo) (by rw [hl, (unhide HB).2.2]; exact hlt)))
      go_wp2_with fail
      go_ret
      exact ⟨⟨_, rfl⟩, by rw [unhide HE]; rfl⟩
/-- The state of the document's loop: behind i of them. -/
structure RfI (w wr : World) (B : List Nat) (of : List Ord.S) (i : Nat) (vo : Value) : Prop where
  below : Below w.heap.size w wr
  out : ∃ R, RowR wr vo R ∧ (∀ x, x ∈ R ↔ x ∈ of.take i ∧ FoundIn B x) ∧ R.length ≤ i ∧ OwnL wr w.heap.size vo R
theorem ownL_nil (w : World) (base : Nat) : OwnL w base (.slice none 0 0) [] := ⟨rfl, .inl ⟨rfl, rfl⟩⟩
set_option maxRecDepth 20000 in
set_option maxHeartbeats 1000000 in
open Classical in
theorem refsRefO_any (a : Option Addr) (n c : Nat) (B : List Nat) (p : Option Addr) (k e : Nat) (of : List Ord.S) (w : World) (hb : BytesAt w (.slice a n c) B) (hB : Sha.Bytes B) (hn : B.length = n) (hnm : n ≤ 100000000)
    (hp : StrsAt w (.slice p k e) of) (hk : of.length = k) (hz : ∀ z ∈ of, z.length ≤ 281474976710656) (hmax : k ≤ 10000) :
    Calls Try.prog 10 #[.slice a n c, .slice p k e] w fun e w' => ∃ u, e = .returned u ∧ RowR w' u (refsOf B of) ∧ Below w.heap.size w w' ∧ OwnL w' w.heap.size u (refsOf B of) := by
  have HB := hide (And.intro hb (And.intro hB hn))
  have HP := hide (And.intro hp hk)
  have HZ := hide hz
  have H0 : Hid (RfI w w B of 0 (.slice none 0 0)) := ⟨Below.refl _ _, [], ⟨⟨none, 0, rfl, Nat.le_refl _, fun h => by simp at h⟩, by simp [Ord.Rises], .inl ⟨rfl, rfl⟩⟩, by simp, by simp, ownL_nil _ _⟩
  clear hb hB hn hp hk hz
  go_enter Try.func10, Try.ntmps10
  go_wp2_with fail
  go_loopw [5, 6] (fun vo vi wr => ∃ i : Nat, i ≤ k ∧ vi = .int .i64 (i : Int) ∧ Hid (RfI w wr B of i vo)) (fun _ vi _ => k - (intOf vi).toNat)
  case atStart => exact ⟨0, by omega, rfl, H0⟩
  case round =>
    obtain ⟨i, hin, rfl, HI⟩ := hrel
    by_cases hlt : i < k
    · obtain ⟨g, o, rfl, hc⟩ := str_at ((unhide HP).1.below (unhide HI).below) (unhide HP).2 i hlt
      have hmem : of.getD i [] ∈ of := by rw [List.getD_eq_getElem?_getD, List.getElem?_eq_getElem (by rw [(unhide HP).2]; exact hlt)]; exact List.getElem_mem _
      have hzl := unhide HZ _ hmem
      have HS := hide (take_snoc (of := of) (i := i) (by rw [(unhide HP).2]; exact hlt))
      have hgl := cell_lt hc
      generalize of.getD i [] = q at *
      have hs := splitRef_any (natsOf q) wr (natsOf_bytes q) (by rw [natsOf_length]; exact hzl)
      rw [strOf_nats] at hs
      have HSP := hide hs
      obtain ⟨R, hR, hRm, hRl, hRo⟩ := (unhide HI).out
      have HRO := hide hRo
      have HR := hide hR
      have HRM := hide hRm
      clear hmem hzl hs hR hRm hRo
      go_wp2_with fail
      refine (unhide HSP).mono ?_
      rintro e1 w1 ⟨hb1, ⟨hq, he⟩ | ⟨hq, he⟩⟩
      · have hisq : IsP q := hq
        simp only [splitV, if_true] at he
        subst he
        have hbl1 : Below w.heap.size w w1 := (unhide HI).below.trans (hb1.mono (unhide HI).below.size)
        have hc1 : w1.cell? ⟨g, o + i, none⟩ = some (.string ⟨q.toArray⟩) := by rw [hb1.cell (p := ⟨g, o + i, none⟩) hgl]; exact hc
        have HSt := hide (standsRef_any a n c B ((natsOf q).take 32) w1 ((unhide HB).1.below hbl1) (unhide HB).2.1 (unhide HB).2.2 ((natsOf_bytes q).take 32) (by rw [List.length_take]; have := hq.1; omega) hnm)
        have HR1 := hide ((unhide HR).below hb1)
        have HO1 := hide (ownL_keep (unhide HRO) fun k _ hk => hb1.block k hk)
        have HB1 := hide hbl1
        have HF : Hid (FoundIn B q ↔ Stands B ((natsOf q).take 32)) := ⟨fun h => h.2, fun h => ⟨hisq, h⟩⟩
        have HQ := hide hisq
        clear hq hisq hbl1 hb1 hc HSP
        generalize (natsOf q).take 32 = D at *
        generalize (natsOf q).drop 33 = N at *
        go_wp2_with fail
        refine (unhide HSt).mono ?_
        rintro e2 w2 ⟨⟨q2, rfl⟩, rfl⟩
        clear HSt
        have hb2 : Below w1.heap.size w1 (w1.drewN q2) := ⟨rfl, rfl, rfl, Nat.le_refl _, fun _ _ => rfl⟩
        have HB2 : Hid (Below w.heap.size w (w1.drewN q2)) := (unhide HB1).trans (hb2.mono (unhide HB1).size)
        have HR2 := hide ((unhide HR1).below hb2)
        have HO2 := hide (ownL_keep (unhide HO1) fun k _ hk => hb2.block k hk)
        have hc2 : (w1.drewN q2).cell? ⟨g, o + i, none⟩ = some (.string ⟨q.toArray⟩) := hc1
        clear HR1 hc1 hb2
        by_cases hst : Stands B D
        · rw [decide_eq_true hst]
          have HL := hide (lay_any u5 R q (w1.drewN q2) (unhide HR2) (by omega))
          have HFQ := hide ((unhide HF).2 hst)
          clear hst HF
          generalize w1.drewN q2 = w2 at *
          go_wp2_with fail
          refine (unhide HL).mono ?_
          rintro e3 w3 ⟨u3, R3, rfl, hR3, hm3, hl3, hb3, ho3⟩
          have HN1 : Hid (RfI w w3 B of (i + 1) u3) := by
            refine ⟨(unhide HB2).trans (hb3.mono (unhide HB2).size), R3, hR3, fun x => ?_, by omega, ho3 _ (unhide HB2).size (unhide HO2)⟩
            rw [hm3, unhide HRM, unhide HS, List.mem_append, List.mem_singleton]
            constructor
            · rintro (rfl | h)
              · exact ⟨.inr rfl, unhide HFQ⟩
              · exact ⟨.inl h.1, h.2⟩
            · rintro ⟨h | h, h3⟩
              · exact .inr ⟨h, h3⟩
              · exact .inl h
          clear hR3 hm3 hb3 HL ho3
          go_wp2_with fail
          exact ⟨⟨i + 1, by omega, rfl, HN1⟩, by simp [intOf]; omega⟩
        · rw [decide_eq_false hst]
          have HN1 : Hid (RfI w (w1.drewN q2) B of (i + 1) u5) := by
            refine ⟨unhide HB2, R, unhide HR2, fun x => ?_, by omega, unhide HO2⟩
            rw [unhide HRM, unhide HS, List.mem_append, List.mem_singleton]
            constructor
            · rintro ⟨h1, h2⟩; exact ⟨.inl h1, h2⟩
            · rintro ⟨h1 | rfl, h2⟩
              · exact ⟨h1, h2⟩
              · exact absurd ((unhide HF).1 h2) hst
          clear hst HF
          generalize w1.drewN q2 = w2 at *
          go_wp2_with fail
          exact ⟨⟨i + 1, by omega, rfl, HN1⟩, by simp [intOf]; omega⟩
      · have hnq : ¬ IsP q := hq
        simp only [splitV, Bool.false_eq_true, if_false] at he
        subst he
        have HN1 : Hid (RfI w w1 B of (i + 1) u5) := by
          refine ⟨(unhide HI).below.trans (hb1.mono (unhide HI).below.size), R, (unhide HR).below hb1, fun x => ?_, by omega, ownL_keep (unhide HRO) fun k _ hk => hb1.block k hk⟩
          rw [unhide HRM, unhide HS, List.mem_append, List.mem_singleton]
          constructor
          · rintro ⟨h1, h2⟩; exact ⟨.inl h1, h2⟩
          · rintro ⟨h1 | rfl, h2⟩
            · exact ⟨h1, h2⟩
            · exact absurd h2.1 hnq
        clear hq hnq HSP hb1
        go_wp2_with fail
        exact ⟨⟨i + 1, by omega, rfl, HN1⟩, by simp [intOf]; omega⟩
    · obtain rfl : i = k := by omega
      have HE : Hid (RowR wr u5 (refsOf B of) ∧ Below w.heap.size w wr ∧ OwnL wr w.heap.size u5 (refsOf B of)) := by
        obtain ⟨R, hR, hRm, _, hRo⟩ := (unhide HI).out
        rw [List.take_of_length_le (by have := (unhide HP).2; omega)] at hRm
        rw [show refsOf B of = R from Ord.rises_eq (refsOf_rises _ _) hR.2.1 fun x => by rw [refsOf_mem, hRm]]
        exact ⟨hR, (unhide HI).below, hRo⟩
      go_wp2_with fail
      go_ret
      exact ⟨_, rfl, unhide HE⟩
theorem refsRef_any (a : Option Addr) (n c : Nat) (B : List Nat) (p : Option Addr) (k e : Nat) (of : List Ord.S) (w : World) (hb : BytesAt w (.slice a n c) B) (hB : Sha.Bytes B) (hn : B.length = n) (hnm : n ≤ 100000000)
    (hp : StrsAt w (.slice p k e) of) (hk : of.length = k) (hz : ∀ z ∈ of, z.length ≤ 281474976710656) (hmax : k ≤ 10000) :
    Calls Try.prog 10 #[.slice a n c, .slice p k e] w fun e w' => ∃ u, e = .returned u ∧ StrsAt w' u (refsOf B of) ∧ Below w.heap.size w w' :=
  (refsRefO_any a n c B p k e of w hb hB hn hnm hp hk hz hmax).mono fun _ _ ⟨u, h1, h2, h3, _⟩ => ⟨u, h1, h2.1, h3⟩
end Go.Proofs.Ytlbfcneboaihnaa
