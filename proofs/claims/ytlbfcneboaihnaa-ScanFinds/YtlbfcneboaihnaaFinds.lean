/- ScanFinds: which of any paths stand in any bytes: the law's walk. -/
import Derived.Test.YtlbfcneboaihnaaRst
namespace Go.Proofs.Ytlbfcneboaihnaa
open Go.RowKit Go.Great
set_option linter.unusedSimpArgs false
theorem strs_first {w : World} {a : Option Addr} {c : Nat} {L M : List Ord.S} (h : StrsAt w (.slice a (L ++ M).length c) (L ++ M)) : StrsAt w (.slice a L.length c) L := by
  obtain ⟨a', c', e, hc, hx⟩ := h
  injection e with e1 e2 e3
  subst e1
  rw [List.length_append] at hc
  refine ⟨a, c', by rw [e3], by omega, fun h0 => ?_⟩
  obtain ⟨b, o, ea, hl, hcell⟩ := hx (by rw [List.length_append]; omega)
  refine ⟨b, o, ea, hl, fun i hi => ?_⟩
  rw [hcell i (by rw [List.length_append]; omega), List.getD_eq_getElem?_getD, List.getElem?_append_left hi, ← List.getD_eq_getElem?_getD]
def tX : Ord.S := [120]
set_option maxRecDepth 20000 in
set_option maxHeartbeats 1000000 in
theorem finds_walk (a : Option Addr) (n c : Nat) (B : List Nat) (p : Option Addr) (k e : Nat) (of : List Ord.S) (w : World)
    (ha : BytesAt w (.slice a n c) B) (hA : Sha.Bytes B) (hn : B.length = n) (hnz : n ≤ 281474976710656)
    (hp : StrsAt w (.slice p k e) of) (hk : of.length = k) (hkz : k ≤ 9223372036854775807) (hz : ∀ z ∈ of, z.length ≤ 140737488351232) :
    Calls Try.prog 3 #[.slice a n c, .slice p k e] w fun e w' => e = .returned (.bool true) ∧ Below w.heap.size w w' := by
  have HZ : Hid (∀ z ∈ of, z.length ≤ 281474976710656) := fun z h => by have := hz z h; omega
  have HA := hide (And.intro ha (And.intro hA hn))
  have HP := hide (And.intro hp hk)
  clear ha hA hn hp hk hz
  by_cases h4 : n ≤ 4000
  case neg =>
    go_enter Try.func3, Try.ntmps3
    go_wp2_with fail
    go_ret
    exact ⟨rfl, Below.refl _ _⟩
  by_cases h30 : k ≤ 50
  case neg =>
    go_enter Try.func3, Try.ntmps3
    go_wp2_with fail
    go_ret
    exact ⟨rfl, Below.refl _ _⟩
  have HR := hide (roomy_any a n c B w (unhide HA).2.2 (unhide HA).1 h4)
  go_enter Try.func3, Try.ntmps3
  go_wp2_with fail
  refine (unhide HR).mono ?_
  rintro e1 w1 ⟨q1, c1, R1, rfl, hq1, hc1, hh1, hb1⟩
  have hsz1 := hb1.size
  have HB1 := hide hb1
  have HH1 := hide hh1
  clear hb1 hh1 HR
  go_wp2_with fail
  have hb2 : Below w1.heap.size w1 (w1.alloc (.cells #[] 25)) := (Below.refl _ _).alloc (Nat.le_refl _) _
  obtain ⟨v3, w3, hr3, ho3, hb3, hz3⟩ := appS (w1.alloc (.cells #[] 25)) w1.heap.size (.slice (some ⟨w1.heap.size, 0, none⟩) 0 0) [] p k e of 23 (unhide HP).2 (ownL_new w1) ((unhide HP).1.below ((unhide HB1).trans (hb2.mono hsz1))) (by simp; omega) (by simp)
  rw [hr3]
  have hbl3 := hb2.trans hb3
  rw [List.nil_append] at ho3
  have hsz3 := hbl3.size
  clear hr3 hb2 hb3 hz3
  go_wp2_with fail
  obtain ⟨v4, w4, hr4, ho4, hb4, hz4⟩ := appS (w3.alloc (.cells #[.string ⟨tX.toArray⟩] 25)) w1.heap.size v3 of (some ⟨w3.heap.size, 0, none⟩) 1 1 [tX] 23 rfl (World.ownsRow.alloc ho3 _) (oneS_at w3 tX) (by rw [(unhide HP).2]; omega) (by simp; omega)
  rw [show (⟨#[120]⟩ : ByteArray) = ⟨tX.toArray⟩ from rfl, hr4]
  have hbl4 : Below w1.heap.size w1 w4 := (hbl3.alloc hsz3 _).trans hb4
  obtain ⟨a4, c4, rfl⟩ := ho4.form
  have hat4 := strs_first ho4.at
  have hl4 : (of ++ [tX]).length = k + 1 := by rw [List.length_append, (unhide HP).2]; rfl
  have hc4 : k + 1 ≤ c4 := by
    have h := ho4.at
    obtain ⟨a', c', e', hc, _⟩ := h
    injection e' with _ _ e3
    omega
  rw [(unhide HP).2] at hat4
  have HAT4 := hide hat4
  have HB4 := hide hbl4
  have hx4 : ∃ g4, a4 = some ⟨g4, 0, none⟩ := by
    rcases ho4.2 with ⟨h, h0⟩ | ⟨g, cap, cur, h, _⟩
    · rw [hl4] at h0; omega
    · injection h with h1; exact ⟨g, h1⟩
  obtain ⟨g4, rfl⟩ := hx4
  rw [hl4]
  clear hr4 hb4 hz4 ho3 ho4 hbl3 hbl4 hat4 hl4
  have hkc : k ≤ c4 := by omega
  have hnc1 : n ≤ c1 := by omega
  have hbw4 : Below w.heap.size w w4 := (unhide HB1).trans ((unhide HB4).mono hsz1)
  have HBW4 := hide hbw4
  have hq1l : q1 < w1.heap.size := (Array.getElem?_eq_some_iff.1 (unhide HH1)).1
  have hh4 := (unhide HH1)
  rw [← (unhide HB4).block q1 hq1l] at hh4
  have HH4 := hide hh4
  have HR5 := hide (refs_any (some ⟨q1, 0, none⟩) n c1 B (some ⟨g4, 0, none⟩) k c4 of w4 (roomy_at hh4 (unhide HA).2.2 hc1) (unhide HA).2.1 (unhide HA).2.2 (by omega) (unhide HAT4) (unhide HP).2 (unhide HZ) (by omega))
  clear hbw4 hh4
  go_wp2_with fail
  refine (unhide HR5).mono ?_
  rintro e5 w5 ⟨u5, rfl, hu5, hb5⟩
  obtain ⟨a5, c5, rfl⟩ := hu5.form
  have hbw5 : Below w.heap.size w w5 := (unhide HBW4).trans (hb5.mono (unhide HBW4).size)
  have HU5 := hide hu5
  have HB5 := hide hb5
  have HR6 := hide (refsRef_any a n c B p k e of w5 ((unhide HA).1.below hbw5) (unhide HA).2.1 (unhide HA).2.2 (by omega) ((unhide HP).1.below hbw5) (unhide HP).2 (unhide HZ) (by omega))
  have hl5 : (refsOf B of).length ≤ 50 := by have := refsOf_length B of; have := (unhide HP).2; omega
  have HBW5 := hide hbw5
  clear hu5 hb5 HR5 hbw5
  obtain ⟨n5, hn5⟩ : ∃ n5, (refsOf B of).length = n5 := ⟨_, rfl⟩
  have HN5 := hide hn5
  rw [hn5] at hl5 HU5 ⊢
  clear hn5
  go_wp2_with fail
  refine (unhide HR6).mono ?_
  rintro e6 w6 ⟨u6, rfl, hu6, hb6⟩
  obtain ⟨a6, c6, rfl⟩ := hu6.form
  have hbw6 : Below w.heap.size w w6 := (unhide HBW5).trans (hb6.mono (unhide HBW5).size)
  have hb46 : Below w4.heap.size w4 w6 := (unhide HB5).trans (hb6.mono (unhide HB5).size)
  rw [unhide HN5] at hu6 ⊢
  have HR7 := hide (paths_any a5 a6 n5 n5 c5 c6 (refsOf B of) (refsOf B of) w6 ((unhide HU5).below hb6) hu6 (unhide HN5) (unhide HN5) (by omega) (by omega))
  rw [decide_eq_true (rfl : refsOf B of = refsOf B of)] at HR7
  have HBW6 := hide hbw6
  have HB46 := hide hb46
  clear hu6 hb6 HR6 hbw6 hb46
  go_wp2_with fail
  refine (unhide HR7).mono ?_
  rintro e7 w7 ⟨⟨q7, rfl⟩, rfl⟩
  have hb7 : Below w6.heap.size w6 (w6.drewN q7) := ⟨rfl, rfl, rfl, Nat.le_refl _, fun _ _ => rfl⟩
  have hbw7 : Below w.heap.size w (w6.drewN q7) := (unhide HBW6).trans (hb7.mono (unhide HBW6).size)
  have hb47 : Below w4.heap.size w4 (w6.drewN q7) := (unhide HB46).trans (hb7.mono (unhide HB46).size)
  have hh7 := unhide HH4
  rw [← hb47.block q1 (Array.getElem?_eq_some_iff.1 hh7).1] at hh7
  have HR8 := hide (stands_any q1 c1 n a c B R1 (w6.drewN q7) hh7 (unhide HA).2.2 hc1 ((unhide HA).1.below hbw7) h4)
  have HBW7 := hide hbw7
  have HB47 := hide hb47
  clear hh7 hb7 HR7 hbw7 hb47
  generalize w6.drewN q7 = w7 at *
  go_wp2_with fail
  refine (unhide HR8).mono ?_
  rintro e8 w8 ⟨rfl, ⟨q8, rfl⟩⟩
  have hb8 : Below w7.heap.size w7 (w7.drewN q8) := ⟨rfl, rfl, rfl, Nat.le_refl _, fun _ _ => rfl⟩
  have hbw8 : Below w.heap.size w (w7.drewN q8) := (unhide HBW7).trans (hb8.mono (unhide HBW7).size)
  have hb48 : Below w4.heap.size w4 (w7.drewN q8) := (unhide HB47).trans (hb8.mono (unhide HB47).size)
  have HR9 := hide (paths_any (some ⟨g4, 0, none⟩) p k k c4 e of of (w7.drewN q8) ((unhide HAT4).below hb48) ((unhide HP).1.below hbw8) (unhide HP).2 (unhide HP).2 (by omega) (by omega))
  rw [decide_eq_true (rfl : of = of)] at HR9
  have HBW8 := hide hbw8
  clear hb8 hb48 HR8 hbw8
  generalize w7.drewN q8 = w8 at *
  go_wp2_with fail
  refine (unhide HR9).mono ?_
  rintro e9 w9 ⟨⟨q9, rfl⟩, rfl⟩
  have HBW9 : Hid (Below w.heap.size w (w8.drewN q9)) := by
    have := unhide HBW8
    exact ⟨this.os, this.tape, this.output, this.size, this.block⟩
  have HK := hide (known_any (w8.drewN q9))
  clear HR9
  generalize w8.drewN q9 = w9 at *
  go_wp2_with fail
  refine (unhide HK).mono ?_
  rintro e10 w10 ⟨rfl, hb10⟩
  have HE : Hid (Below w.heap.size w w10) := (unhide HBW9).trans (hb10.mono (unhide HBW9).size)
  clear hb10 HK
  go_wp2_with fail
  go_ret
  exact ⟨rfl, unhide HE⟩
end Go.Proofs.Ytlbfcneboaihnaa
