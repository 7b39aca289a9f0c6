/- ScanRewrites: one path's digits in the place of another one's, in any bytes: the law's walk. -/
import Derived.Test.YtlbfcneboaihnaaRew
namespace Go.Proofs.Ytlbfcneboaihnaa
open Go.RowKit Go.Great
set_option linter.unusedSimpArgs false
/-- What two Rewrites answer that are alike. -/
theorem rew_two {w w' w0 w0' : World} {p q B : List Nat} {e e0 : Ending} (h : RewIs w p q B e w') (h0 : RewIs w0 p q B e0 w0') (hl : (layAll (q.take 32) B (plcs B (p.take 32) 0)).length = B.length ∨ ¬ (Sha.isPth p ∧ Sha.isPth q)) :
    ∃ (v v0 : Value) (k z : Int) (L : List Nat), e = .returned (.tuple #[v, .int .i64 k, .int .i64 z]) ∧ e0 = .returned (.tuple #[v0, .int .i64 k, .int .i64 z]) ∧ OwnR w' w.heap.size v L ∧ OwnR w0' w0.heap.size v0 L ∧ L.length ≤ B.length := by
  rcases h.2 with ⟨h1, h2, v, he, ho⟩ | ⟨hno, he⟩
  · rcases h0.2 with ⟨_, _, v0, he0, ho0⟩ | ⟨hno0, _⟩
    · rcases hl with hl | hl
      · exact ⟨v, v0, _, 0, _, he, he0, ho, ho0, by omega⟩
      · exact absurd ⟨h1, h2⟩ hl
    · exact absurd ⟨h1, h2⟩ hno0
  · rcases h0.2 with ⟨h1, h2, _⟩ | ⟨_, he0⟩
    · exact absurd ⟨h1, h2⟩ hno
    · exact ⟨_, _, 0, 3, [], he, he0, ownR_nil _ _, ownR_nil _ _, by simp⟩
theorem rew_len {p q B : List Nat} : (layAll (q.take 32) B (plcs B (p.take 32) 0)).length = B.length ∨ ¬ (Sha.isPth p ∧ Sha.isPth q) := by
  by_cases h : Sha.isPth p ∧ Sha.isPth q
  · have l1 : (p.take 32).length = 32 := by rw [List.length_take]; have := h.1.1; omega
    have l2 : (q.take 32).length = 32 := by rw [List.length_take]; have := h.2.1; omega
    exact .inl (layAll_length _ _ fun x hx => by have := plcs_in (by omega) hx; omega)
  · exact .inr h
set_option maxRecDepth 20000 in
set_option maxHeartbeats 1000000 in
theorem rews_walk (a : Option Addr) (n c : Nat) (B : List Nat) (s1 s2 : ByteArray) (w : World)
    (ha : BytesAt w (.slice a n c) B) (hA : Sha.Bytes B) (hn : B.length = n) (hnz : n ≤ 281474976710656) (hs1 : s1.size ≤ 140737488351232) (hs2 : s2.size ≤ 140737488351232) (hmx : ∃ m, w.cell? ⟨0, 0, none⟩ = some (.int .i64 m)) :
    Calls Try.prog 5 #[.slice a n c, .string s1, .string s2] w fun e w' => e = .returned (.bool true) ∧ Below w.heap.size w w' := by
  obtain ⟨p, hp, rfl⟩ : ∃ p, Sha.Bytes p ∧ strOf p = s1 := ⟨bytesOf s1, bytesOf_bytes s1, strOf_bytesOf s1⟩
  obtain ⟨q, hq, rfl⟩ : ∃ q, Sha.Bytes q ∧ strOf q = s2 := ⟨bytesOf s2, bytesOf_bytes s2, strOf_bytesOf s2⟩
  rw [strOf_size] at hs1 hs2
  have HA := hide (And.intro ha (And.intro hA (And.intro hn hmx)))
  have HPQ := hide (And.intro hp hq)
  clear ha hA hn hp hq hmx
  by_cases h4 : n ≤ 4000
  case neg =>
    go_enter Try.func5, Try.ntmps5
    go_wp2_with fail
    go_ret
    exact ⟨rfl, Below.refl _ _⟩
  by_cases h3 : p.length + q.length ≤ 300
  case neg =>
    go_enter Try.func5, Try.ntmps5
    go_wp2_with fail
    go_ret
    exact ⟨rfl, Below.refl _ _⟩
  have HR := hide (roomy_any a n c B w (unhide HA).2.2.1 (unhide HA).1 h4)
  go_enter Try.func5, Try.ntmps5
  go_wp2_with fail
  refine (unhide HR).mono ?_
  rintro e1 w1 ⟨q1, c1, R1, rfl, hq1, hc1, hh1, hb1⟩
  have hz1 := hb1.size
  obtain ⟨m, hm⟩ := (unhide HA).2.2.2
  have HW1 := hide (rewrite_any p q (some ⟨q1, 0, none⟩) n c1 B w1 (unhide HPQ).1 (by omega) (unhide HPQ).2 (by omega) (roomy_at hh1 (unhide HA).2.2.1 hc1) (unhide HA).2.1 (unhide HA).2.2.1 h4 ⟨m, by rw [hb1.cell (p := ⟨0, 0, none⟩) (cell_lt hm)]; exact hm⟩)
  have HB1 := hide hb1
  have HH1 := hide hh1
  have hnc1 : n ≤ c1 := by omega
  clear hb1 hh1 HR hm
  go_wp2_with fail
  refine (unhide HW1).mono ?_
  rintro e2 w2 h2
  have hb2 : Below w.heap.size w w2 := (unhide HB1).trans (h2.1.mono hz1)
  have HW2 := hide (rewriteRef_any p q a n c B w2 (unhide HPQ).1 (by omega) (unhide HPQ).2 (by omega) ((unhide HA).1.below hb2) (unhide HA).2.1 (unhide HA).2.2.1 (by omega))
  have H2 := hide h2
  have hsh : ∃ (v : Value) (k z : Int), e2 = .returned (.tuple #[v, .int .i64 k, .int .i64 z]) := by
    rcases h2.2 with ⟨_, _, v, he, _⟩ | ⟨_, he⟩
    · exact ⟨_, _, _, he⟩
    · exact ⟨_, _, _, he⟩
  obtain ⟨v2, k2, z2, rfl⟩ := hsh
  have HB2 := hide hb2
  clear h2 hb2 HW1
  go_wp2_with fail
  refine (unhide HW2).mono ?_
  rintro e3 w3 h3'
  obtain ⟨v, v0, k, z, L, ee, e0, ho, ho0, hL⟩ := rew_two (unhide H2) h3' rew_len
  injection ee with ee; injection ee with ee
  obtain ⟨rfl, rfl, rfl⟩ : v2 = v ∧ k2 = k ∧ z2 = z := by simpa using ee
  subst e0
  have hLn : L.length ≤ n := by have := (unhide HA).2.2.1; omega
  have ho3 : OwnR w3 w1.heap.size v2 L := ownR_keep ho fun j _ hj => h3'.1.block j hj
  obtain ⟨av, cv, rfl, hat1⟩ := ho3.at
  obtain ⟨a0, c0, rfl, hat0⟩ := ho0.at
  have HS := hide (same_any av a0 L.length L.length cv c0 L L w3 hat1 hat0 rfl rfl (by omega) (by omega))
  rw [decide_eq_true (rfl : L = L)] at HS
  have hb3 : Below w.heap.size w w3 := (unhide HB2).trans (h3'.1.mono (unhide HB2).size)
  have hb13 : Below w1.heap.size w1 w3 := (unhide H2).1.trans (h3'.1.mono (unhide H2).1.size)
  have HO3 := hide ho3
  have HB3 := hide hb3
  have HB13 := hide hb13
  clear h3' ho ho0 ho3 hat1 hat0 hb3 hb13 ee HW2 H2
  obtain ⟨nl, hnl⟩ : ∃ nl, L.length = nl := ⟨_, rfl⟩
  rw [hnl] at HS HO3 hLn ⊢
  have HNL := hide hnl
  clear hnl
  go_wp2_with fail
  refine (unhide HS).mono ?_
  rintro e4 w4 ⟨⟨q4, rfl⟩, rfl⟩
  have hb4 : Below w3.heap.size w3 (w3.drewN q4) := ⟨rfl, rfl, rfl, Nat.le_refl _, fun _ _ => rfl⟩
  have hb14 : Below w1.heap.size w1 (w3.drewN q4) := (unhide HB13).trans (hb4.mono (unhide HB13).size)
  have ho4 : OwnR (w3.drewN q4) w1.heap.size (.slice av nl cv) L := ownR_keep (unhide HO3) fun j _ hj => hb4.block j hj
  have HP := hide (spoil_any w1.heap.size (.slice av nl cv) L (w3.drewN q4) ho4 (by rw [unhide HNL]; omega) hb14.size)
  have HB14 := hide hb14
  clear hb4 hb14 ho4 HS
  generalize w3.drewN q4 = w4 at *
  go_wp2_with fail
  refine (unhide HP).mono ?_
  rintro e5 w5 ⟨rfl, hb5⟩
  have hb15 : Below w1.heap.size w1 w5 := (unhide HB14).trans hb5
  have hbw5 : Below w.heap.size w w5 := (unhide HB1).trans (hb15.mono hz1)
  have hh5 := unhide HH1
  rw [← hb15.block q1 (Array.getElem?_eq_some_iff.1 hh5).1] at hh5
  have HT := hide (stands_any q1 c1 n a c B R1 w5 hh5 (unhide HA).2.2.1 hc1 ((unhide HA).1.below hbw5) h4)
  have HB5 := hide hbw5
  clear hb5 hb15 hbw5 hh5 HP
  go_wp2_with fail
  refine (unhide HT).mono ?_
  rintro e6 w6 ⟨rfl, ⟨q6, rfl⟩⟩
  have HB6 : Hid (Below w.heap.size w (w5.drewN q6)) := by
    have := unhide HB5
    exact ⟨this.os, this.tape, this.output, this.size, this.block⟩
  have HK := hide (known_any (w5.drewN q6))
  clear HT
  generalize w5.drewN q6 = w6 at *
  go_wp2_with fail
  refine (unhide HK).mono ?_
  rintro e7 w7 ⟨rfl, hb7⟩
  have HE : Hid (Below w.heap.size w w7) := (unhide HB6).trans (hb7.mono (unhide HB6).size)
  clear hb7 HK
  go_wp2_with fail
  go_ret
  exact ⟨rfl, unhide HE⟩
end Go.Proofs.Ytlbfcneboaihnaa
