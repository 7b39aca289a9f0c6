/- ScanParts: what stands in a part stands in the whole: the law's walk. -/
import Derived.Test.YtlbfcneboaihnabKn
import Derived.Test.YtlbfcneboaihnabHas
import Derived.Test.YtlbfcneboaihnabOwn
namespace Go.Proofs.Ytlbfcneboaihnab
open Go.RowKit Go.Great Go.ChangeMaps Go.MapKept
set_option linter.unusedSimpArgs false
theorem ownB_new (w : World) : OwnB (w.alloc (.cells #[] 5)) w.heap.size (.slice (some ⟨w.heap.size, 0, none⟩) 0 0) [] :=
  ⟨w.heap.size, [], rfl, Nat.le_refl _, heap_alloc_last w _⟩
theorem app_bytes (w : World) (base : Nat) (v : Value) (L : List Nat) (a : Option Addr) (n c : Nat) (m : List Nat) (ho : OwnB w base v L) (hs : BytesAt w (.slice a n c) m) (hn : m.length = n) (hmax : L.length + n ≤ 1000000) :
    ∃ v' w', (∀ ty, (app52 ty #[v, .slice a n c]).run Try.prog w = .ok v' w') ∧ OwnB w' base v' (L ++ m) ∧ Below base w w' ∧ w.heap.size ≤ w'.heap.size := by
  subst hn
  by_cases h0 : 0 < m.length
  · exact app_own w base v L a m c ho hs h0 hmax
  · obtain rfl : m = [] := List.eq_nil_of_length_eq_zero (by omega)
    have ho' := ho
    obtain ⟨g, R, rfl, hg, hh⟩ := ho
    refine ⟨_, w, fun ty => app_none w _ _ _ _ _ (by simp) ty, by rw [List.append_nil]; exact ho', Below.refl _ _, Nat.le_refl _⟩
theorem OwnB.at {w : World} {base : Nat} {v : Value} {L : List Nat} (h : OwnB w base v L) : ∃ a c, v = .slice a L.length c ∧ BytesAt w (.slice a L.length c) L := by
  obtain ⟨g, R, rfl, hg, hh⟩ := h
  refine ⟨_, _, rfl, bytesAt_row w g (L ++ R) L L.length _ (by simp [rowOf, hh]) ?_ (by simp) (by simp) (by simp)⟩
  exact (Array.getElem?_eq_some_iff.1 hh).1
theorem StrsAt.form {w : World} {v : Value} {Z : List Ord.S} (h : StrsAt w v Z) : ∃ a c, v = .slice a Z.length c := by obtain ⟨a, c, e, _⟩ := h; exact ⟨a, c, e⟩
set_option maxRecDepth 20000 in
set_option maxHeartbeats 1000000 in
theorem parts_walk (a : Option Addr) (n c : Nat) (A : List Nat) (b : Option Addr) (m d : Nat) (B : List Nat) (p : Option Addr) (k e : Nat) (of : List Ord.S) (w : World)
    (ha : BytesAt w (.slice a n c) A) (hA : Sha.Bytes A) (hn : A.length = n) (hnz : n ≤ 281474976710656) (hb : BytesAt w (.slice b m d) B) (hB : Sha.Bytes B) (hm : B.length = m) (hmz : m ≤ 281474976710656)
    (hp : StrsAt w (.slice p k e) of) (hk : of.length = k) (hkz : k ≤ 9223372036854775807) (hz : ∀ z ∈ of, z.length ≤ 140737488351232) :
    Calls Try.prog 4 #[.slice a n c, .slice b m d, .slice p k e] w fun e w' => e = .returned (.bool true) ∧ Below w.heap.size w w' := by
  have HZ : Hid (∀ z ∈ of, z.length ≤ 281474976710656) := fun z h => by have := hz z h; omega
  have HA := hide (And.intro ha (And.intro hA hn))
  have HB := hide (And.intro hb (And.intro hB hm))
  have HP := hide (And.intro hp hk)
  clear ha hA hn hb hB hm hp hk hz
  by_cases h4 : n + m ≤ 4000
  case neg =>
    go_enter Try.func4, Try.ntmps4
    go_wp2_with fail
    go_ret
    exact ⟨rfl, Below.refl _ _⟩
  by_cases h30 : k ≤ 30
  case neg =>
    go_enter Try.func4, Try.ntmps4
    go_wp2_with fail
    go_ret
    exact ⟨rfl, Below.refl _ _⟩
  go_enter Try.func4, Try.ntmps4
  go_wp2_with fail
  have hb0 : Below w.heap.size w (w.alloc (.cells #[] 5)) := (Below.refl _ _).alloc (Nat.le_refl _) _
  obtain ⟨v1, w1, hr1, ho1, hb1, hz1⟩ := app_bytes (w.alloc (.cells #[] 5)) w.heap.size _ [] a n c A (ownB_new w) ((unhide HA).1.below hb0) (unhide HA).2.2 (by simp; omega)
  rw [hr1]
  have hbl1 := hb0.trans hb1
  rw [List.nil_append] at ho1
  clear hr1 hb0 hb1 hz1
  go_wp2_with fail
  obtain ⟨v2, w2, hr2, ho2, hb2, hz2⟩ := app_bytes w1 w.heap.size v1 A b m d B ho1 ((unhide HB).1.below hbl1) (unhide HB).2.2 (by rw [(unhide HA).2.2]; omega)
  rw [hr2]
  have hbl2 := hbl1.trans hb2
  clear hr2 hb2 hz2 hbl1 ho1
  obtain ⟨a3, c3, rfl, hat3⟩ := ho2.at
  have HR := hide (refs_any a3 (A ++ B).length c3 (A ++ B) p k e of w2 hat3 ((unhide HA).2.1.append (unhide HB).2.1) rfl (by rw [List.length_append, (unhide HA).2.2, (unhide HB).2.2]; omega) ((unhide HP).1.below hbl2) (unhide HP).2 (unhide HZ) (by omega))
  have HB2 := hide hbl2
  clear hat3 ho2 hbl2
  generalize (A ++ B).length = n3 at *
  go_wp2_with fail
  refine (unhide HR).mono ?_
  rintro e w3 ⟨u3, rfl, hu3, hb3⟩
  obtain ⟨a4, c4, rfl⟩ := hu3.form
  have hbl3 : Below w.heap.size w w3 := (unhide HB2).trans (hb3.mono (unhide HB2).size)
  have HU3 := hide hu3
  have hw3 : (refsOf (A ++ B) of).length ≤ k := by have := refsOf_length (A ++ B) of; have := (unhide HP).2; omega
  have HB3 := hide hbl3
  clear hu3 hb3 hbl3 HR
  generalize hl4 : (refsOf (A ++ B) of).length = n4 at *
  have HL4 := hide hl4
  clear hl4
  go_wp2_with fail
  have hb4 : Below w3.heap.size w3 (w3.alloc (.cells #[] 25)) := (Below.refl _ _).alloc (Nat.le_refl _) _
  have hz3 := (unhide HB3).size
  have hbl4 : Below w.heap.size w (w3.alloc (.cells #[] 25)) := (unhide HB3).trans (hb4.mono hz3)
  refine (refs_any a n c A p k e of (w3.alloc (.cells #[] 25)) ((unhide HA).1.below hbl4) (unhide HA).2.1 (unhide HA).2.2 (by omega) ((unhide HP).1.below hbl4) (unhide HP).2 (unhide HZ) (by omega)).mono ?_
  rintro e5 w5 ⟨u5, rfl, hu5, hb5⟩
  obtain ⟨a5, c5, rfl⟩ := hu5.form
  have hown5 : OwnL w5 w3.heap.size (.slice (some ⟨w3.heap.size, 0, none⟩) 0 0) [] := ownL_keep (ownL_new w3) fun j _ hj => hb5.block j hj
  have hbl5 : Below w3.heap.size w3 w5 := hb4.trans (hb5.mono (by simp))
  have hl5 := refsOf_length A of
  have hkk := (unhide HP).2
  obtain ⟨v6, w6, hr6, ho6, hb6, hz6⟩ := appS w5 w3.heap.size _ [] a5 (refsOf A of).length c5 (refsOf A of) 22 rfl hown5 hu5 (by simp; omega) hbl5.size
  have hbl6 := hbl5.trans hb6
  rw [List.nil_append] at ho6
  have HO6 := hide ho6
  have HB6 := hide hbl6
  clear hu5 hb5 hown5 hbl5 hb4 hbl4 ho6 hb6 hbl6 hz6 hkk
  generalize (refsOf A of).length = n5 at *
  go_wp2_with fail
  clear hr6
  have hbl6 : Below w.heap.size w w6 := (unhide HB3).trans ((unhide HB6).mono hz3)
  refine (refs_any b m d B p k e of w6 ((unhide HB).1.below hbl6) (unhide HB).2.1 (unhide HB).2.2 (by omega) ((unhide HP).1.below hbl6) (unhide HP).2 (unhide HZ) (by omega)).mono ?_
  rintro e7 w7 ⟨u7, rfl, hu7, hb7⟩
  obtain ⟨a7, c7, rfl⟩ := hu7.form
  have hown7 : OwnL w7 w3.heap.size v6 (refsOf A of) := ownL_keep (unhide HO6) fun j _ hj => hb7.block j hj
  have hbl7 : Below w3.heap.size w3 w7 := (unhide HB6).trans (hb7.mono (unhide HB6).size)
  have hl7 := refsOf_length B of
  have hl5 := refsOf_length A of
  have hkk := (unhide HP).2
  obtain ⟨v8, w8, hr8, ho8, hb8, hz8⟩ := appS w7 w3.heap.size v6 (refsOf A of) a7 (refsOf B of).length c7 (refsOf B of) 22 rfl hown7 hu7 (by omega) hbl7.size
  have hbl8 := hbl7.trans hb8
  obtain ⟨a8, c8, rfl⟩ := ho8.form
  have hat8 := ho8.at
  have hl8 : (refsOf A of ++ refsOf B of).length ≤ 60 := by rw [List.length_append]; omega
  have HAT8 := hide hat8
  have HB8 := hide hbl8
  have HMEM : Hid (∀ x ∈ refsOf A of ++ refsOf B of, x ∈ refsOf (A ++ B) of) := fun x h => refs_part A B of x h
  generalize refsOf A of ++ refsOf B of = LL at *
  clear hu7 hb7 hown7 hbl7 ho8 hb8 hbl8 hz8 hkk hat8 hbl6 hl5 hl7
  generalize (refsOf B of).length = n7 at *
  obtain ⟨n8, hn8⟩ : ∃ n8, LL.length = n8 := ⟨_, rfl⟩
  have HN8 := hide hn8
  rw [hn8] at hr8 hl8 HAT8
  clear hn8
  go_wp2_with fail
  clear hr8
  go_loopw [9] (fun vi wr => ∃ i : Nat, i ≤ n8 ∧ vi = .int .i64 (i : Int) ∧ Hid (Below w8.heap.size w8 wr)) (fun vi _ => n8 - (intOf vi).toNat)
  case atStart => exact ⟨0, by omega, rfl, Below.refl _ _⟩
  case round =>
    obtain ⟨i, hin, rfl, HI⟩ := hrel
    by_cases hlt : i < n8
    · obtain ⟨gx, ox, rfl, hc⟩ := str_at ((unhide HAT8).below (unhide HI)) (unhide HN8) i hlt
      have hmem := unhide HMEM _ (getD_mem (by rw [unhide HN8]; exact hlt) : LL.getD i [] ∈ LL)
      have hbl : Below w3.heap.size w3 wr := (unhide HB8).trans ((unhide HI).mono (unhide HB8).size)
      have HH := hide (has_any a4 n4 c4 (refsOf (A ++ B) of) (LL.getD i []) wr ((unhide HU3).below hbl) (unhide HL4) (by omega))
      rw [decide_eq_true hmem] at HH
      clear hmem hbl
      generalize LL.getD i [] = x at *
      go_wp2_with fail
      refine (unhide HH).mono ?_
      rintro e9 w9 ⟨⟨q, rfl⟩, rfl⟩
      have HN9 : Hid (Below w8.heap.size w8 (wr.drewN q)) := by
        have := unhide HI
        exact ⟨this.os, this.tape, this.output, this.size, this.block⟩
      clear HH
      go_wp2_with fail
      exact ⟨⟨i + 1, by omega, rfl, HN9⟩, by simp [intOf]; omega⟩
    · obtain rfl : i = n8 := by omega
      have hbl : Below w.heap.size w wr := (unhide HB3).trans (((unhide HB8).trans ((unhide HI).mono (unhide HB8).size)).mono hz3)
      have HE := hide hbl
      have HK := hide (known_any wr)
      clear hbl
      go_wp2_with fail
      refine (unhide HK).mono ?_
      rintro e9 w9 ⟨rfl, hb9⟩
      have HE9 : Hid (Below w.heap.size w w9) := (unhide HE).trans (hb9.mono (unhide HE).size)
      clear hb9
      go_wp2_with fail
      go_ret
      exact ⟨rfl, unhide HE9⟩
end Go.Proofs.Ytlbfcneboaihnab
