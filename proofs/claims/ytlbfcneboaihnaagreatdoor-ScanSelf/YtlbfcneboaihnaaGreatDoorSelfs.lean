/- ScanSelf: the digest but for the digits does not hang on what they are: the law's walk. -/
import Derived.Test.YtlbfcneboaihnaaGreatDoorSlf
import Derived.Test.YtlbfcneboaihnaaGreatDoorMods
import Derived.Test.YtlbfcneboaihnaaGreatDoorSam
namespace Go.Proofs.YtlbfcneboaihnaaGreatDoor
open Go.RowKit Go.Shelf Go.Great
set_option linter.unusedSimpArgs false
theorem pth_len {p : List Nat} (h : Sha.isPth p) : p.length ≤ 113 := by
  have h1 := (isNm_len h.2.2.1).2
  rw [List.length_drop] at h1
  omega
set_option maxRecDepth 20000 in
set_option maxHeartbeats 1000000 in
theorem isRef_any (p : List Nat) (w : World) (hp : Sha.Bytes p) (hm : p.length ≤ 281474976710656) :
    Calls Tryz.prog 8 #[.string (strOf p)] w fun e w' => Below w.heap.size w w' ∧ ((Sha.isPth p ∧ e = .returned (.bool true)) ∨ (¬ Sha.isPth p ∧ e = .returned (.bool false))) := by
  have hs := hide (splitRef_any p w hp hm)
  go_enter Tryz.func8, Tryz.ntmps8
  go_wp2_with fail
  refine (unhide hs).mono ?_
  rintro e w1 ⟨hbl, ⟨hp, he⟩ | ⟨hp, he⟩⟩
  · have HP := hide hp
    simp only [splitV, if_true] at he
    subst he
    clear hp
    go_wp2
    go_ret
    exact ⟨hbl, .inl ⟨unhide HP, rfl⟩⟩
  · have HP := hide hp
    simp only [splitV, Bool.false_eq_true, if_false] at he
    subst he
    clear hp
    go_wp2
    go_ret
    exact ⟨hbl, .inr ⟨unhide HP, rfl⟩⟩
set_option maxRecDepth 20000 in
set_option maxHeartbeats 1000000 in
theorem selfs_walk (a : Option Addr) (n c : Nat) (B : List Nat) (s1 s2 : ByteArray) (w : World)
    (ha : BytesAt w (.slice a n c) B) (hA : Sha.Bytes B) (hn : B.length = n) (hnz : n ≤ 281474976710656) (hs1 : s1.size ≤ 140737488351232) (hs2 : s2.size ≤ 140737488351232) (hmx : ∃ m, w.cell? ⟨0, 0, none⟩ = some (.int .i64 m)) (hpw : Pow w) :
    Calls Tryz.prog 4 #[.slice a n c, .string s1, .string s2] w fun e w' => e = .returned (.bool true) ∧ Below w.heap.size w w' := by
  obtain ⟨p, hp, rfl⟩ : ∃ p, Sha.Bytes p ∧ strOf p = s1 := ⟨bytesOf s1, bytesOf_bytes s1, strOf_bytesOf s1⟩
  obtain ⟨q, hq, rfl⟩ : ∃ q, Sha.Bytes q ∧ strOf q = s2 := ⟨bytesOf s2, bytesOf_bytes s2, strOf_bytesOf s2⟩
  rw [strOf_size] at hs1 hs2
  have HA := hide (And.intro ha (And.intro hA (And.intro hn (And.intro hmx hpw))))
  have HPQ := hide (And.intro hp hq)
  clear ha hA hn hp hq hmx hpw
  by_cases h4 : n ≤ 4000
  case neg =>
    go_enter Tryz.func4, Tryz.ntmps4
    go_wp2_with fail
    go_ret
    exact ⟨rfl, Below.refl _ _⟩
  have HI1 := hide (isRef_any p w (unhide HPQ).1 (by omega))
  go_enter Tryz.func4, Tryz.ntmps4
  go_wp2_with fail
  refine (unhide HI1).mono ?_
  rintro e w1 ⟨hb1, ⟨h1, rfl⟩ | ⟨h1, rfl⟩⟩
  case inr =>
    have HB1 := hide hb1
    clear hb1 h1
    go_wp2_with fail
    go_ret
    exact ⟨rfl, unhide HB1⟩
  have HI2 := hide (isRef_any q w1 (unhide HPQ).2 (by omega))
  have HB1 := hide hb1
  have H1 := hide h1
  clear h1 hb1 HI1
  go_wp2_with fail
  refine (unhide HI2).mono ?_
  rintro e w2 ⟨hb2, ⟨h2, rfl⟩ | ⟨h2, rfl⟩⟩
  case inr =>
    have HB2 := hide ((unhide HB1).trans (hb2.mono (unhide HB1).size))
    clear hb2 h2
    go_wp2_with fail
    go_ret
    exact ⟨rfl, unhide HB2⟩
  have HB2 := hide ((unhide HB1).trans (hb2.mono (unhide HB1).size))
  have H2 := hide h2
  have HRw : Hid (∀ W, Below w.heap.size w W → Calls Tryz.prog 9 #[.slice a n c, .string (strOf p), .string (strOf q)] W (RewIs W p q B)) := fun W hW => by
    obtain ⟨m, hm⟩ := (unhide HA).2.2.2.1
    exact rewrite_any p q a n c B W (unhide HPQ).1 (by have := pth_len (unhide H1); omega) (unhide HPQ).2 (by have := pth_len (unhide H2); omega) ((unhide HA).1.below hW) (unhide HA).2.1 (unhide HA).2.2.1 h4 ⟨m, by rw [hW.cell (p := ⟨0, 0, none⟩) (cell_lt hm)]; exact hm⟩
  clear hb2 h2 HI2 HB1
  go_wp2_with fail
  refine (unhide HRw _ (unhide HB2)).mono ?_
  rintro e w3 h3
  rcases h3.2 with ⟨_, _, v3, rfl, ho3⟩ | ⟨hno, _⟩
  case inr => exact absurd ⟨unhide H1, unhide H2⟩ hno
  have hb3 : Below w.heap.size w w3 := (unhide HB2).trans (h3.1.mono (unhide HB2).size)
  have hT32 := (path_digits (unhide H2)).1
  have hF32 := (path_digits (unhide H1)).1
  have hCl : (layAll (q.take 32) B (plcs B (p.take 32) 0)).length = n := by
    rw [layAll_length _ _ (fun x hx => by have := (plcs_in (by omega) hx).2; omega)]; exact (unhide HA).2.2.1
  have hCb : Sha.Bytes (layAll (q.take 32) B (plcs B (p.take 32) 0)) := layAll_bytes (fun y hy => (unhide HPQ).2 y (List.mem_of_mem_take hy)) _ B (unhide HA).2.1
  have HSelf := hide (mod_self (B := B) (unhide H1) (unhide H2))
  generalize hC : layAll (q.take 32) B (plcs B (p.take 32) 0) = C at *
  obtain ⟨av, cv, rfl, hat⟩ := ho3.at
  rw [hCl] at hat ⊢
  obtain ⟨k1, hk1⟩ : ∃ k1, (plcs B (p.take 32) 0).length = k1 := ⟨_, rfl⟩
  rw [hk1]
  have hk1m : k1 ≤ 4000 := by
    have h5 := plcs_len (B := B) (D := p.take 32) (by omega) (B.length + 1) 0 (by omega)
    have h6 := (unhide HA).2.2.1
    omega
  have HC := hide (And.intro hat (And.intro hCb hCl))
  have HB3 := hide hb3
  have HRr := hide (rewriteRef_any q p av n cv C w3 (unhide HPQ).2 (by have := pth_len (unhide H2); omega) (unhide HPQ).1 (by have := pth_len (unhide H1); omega) hat hCb hCl (by omega))
  clear h3 ho3 hb3 hT32 hF32 hCl hCb hat hC hk1 HRw
  go_wp2_with fail
  refine (unhide HRr).mono ?_
  rintro e w4 h4'
  rcases h4'.2 with ⟨_, _, v4, rfl, ho4⟩ | ⟨hno, _⟩
  case inr => exact absurd ⟨unhide H2, unhide H1⟩ hno
  have hb4 : Below w.heap.size w w4 := (unhide HB3).trans (h4'.1.mono (unhide HB3).size)
  have hb34 : Below w3.heap.size w3 w4 := h4'.1
  have hT32 := (path_digits (unhide H2)).1
  have hF32 := (path_digits (unhide H1)).1
  have hDl : (layAll (p.take 32) C (plcs C (q.take 32) 0)).length = n := by
    rw [layAll_length _ _ (fun x hx => by have := (plcs_in (by omega) hx).2; omega)]; exact (unhide HC).2.2
  have hDb : Sha.Bytes (layAll (p.take 32) C (plcs C (q.take 32) 0)) := layAll_bytes (fun y hy => (unhide HPQ).1 y (List.mem_of_mem_take hy)) _ C (unhide HC).2.1
  obtain ⟨D, hD⟩ : ∃ D, layAll (p.take 32) C (plcs C (q.take 32) 0) = D := ⟨_, rfl⟩
  have HD := hide hD
  rw [hD] at ho4 hDl hDb HSelf
  obtain ⟨ad, cd, rfl, hatd⟩ := ho4.at
  rw [hDl] at hatd ⊢
  obtain ⟨k2, hk2⟩ : ∃ k2, (plcs C (q.take 32) 0).length = k2 := ⟨_, rfl⟩
  have HK2 := hide hk2
  rw [hk2]
  have hk2m : k2 ≤ 4000 := by
    have h5 := plcs_len (B := C) (D := q.take 32) (by omega) (C.length + 1) 0 (by omega)
    have h6 := (unhide HC).2.2
    omega
  have HB4 := hide hb4
  have HB34 := hide hb34
  have HSm := hide (same_any ad a n n cd c D B w4 hatd ((unhide HA).1.below hb4) hDl (unhide HA).2.2.1 (by omega) (by omega))
  have HDD := hide (And.intro hDl hDb)
  clear h4' ho4 hb4 hb34 hT32 hF32 hDl hDb hatd hD hk2 HRr
  by_cases hkk : k2 = k1
  case neg =>
    have HKn := hide (known_any w4)
    have hkk' : ¬ ((k2 : Int) = (k1 : Int)) := by omega
    clear HSm
    go_wp2_with fail
    refine (unhide HKn).mono ?_
    rintro e w5 ⟨rfl, hb5⟩
    have HB5 := hide ((unhide HB4).trans (hb5.mono (unhide HB4).size))
    clear hb5 HKn
    go_wp2_with fail
    go_ret
    exact ⟨rfl, unhide HB5⟩
  subst hkk
  go_wp2_with fail
  refine (unhide HSm).mono ?_
  rintro e w5 ⟨⟨q5, hw5⟩, rfl⟩
  have hb45 : Below w4.heap.size w4 w5 := by rw [hw5]; exact ⟨rfl, rfl, rfl, Nat.le_refl _, fun _ _ => rfl⟩
  have hb5 : Below w.heap.size w w5 := (unhide HB4).trans (hb45.mono (unhide HB4).size)
  have hb35 : Below w3.heap.size w3 w5 := (unhide HB34).trans (hb45.mono (unhide HB34).size)
  have HB5 := hide hb5
  have HB35 := hide hb35
  clear hw5 hb45 HSm
  by_cases hDB : D = B
  case neg =>
    rw [decide_eq_false hDB]
    have HKn := hide (known_any w5)
    clear hb5 hb35 hDB
    go_wp2_with fail
    refine (unhide HKn).mono ?_
    rintro e w6 ⟨rfl, hb6⟩
    have HB6 := hide ((unhide HB5).trans (hb6.mono (unhide HB5).size))
    clear hb6 HKn
    go_wp2_with fail
    go_ret
    exact ⟨rfl, unhide HB6⟩
  rw [decide_eq_true hDB]
  have HS := hide (unhide HSelf hDB)
  have HDB := hide hDB
  obtain ⟨m, hm⟩ := (unhide HA).2.2.2.1
  have hmx : ∀ W, Below w.heap.size w W → ∃ m, W.cell? ⟨0, 0, none⟩ = some (.int .i64 m) := fun W hW => ⟨m, by rw [hW.cell (p := ⟨0, 0, none⟩) (cell_lt hm)]; exact hm⟩
  have HMX := hide hmx
  have HR2 := hide (rewrite_any q p av n cv C w5 (unhide HPQ).2 (by have := pth_len (unhide H2); omega) (unhide HPQ).1 (by have := pth_len (unhide H1); omega) ((unhide HC).1.below hb35) (unhide HC).2.1 (unhide HC).2.2 h4 (hmx w5 hb5))
  clear hb5 hb35 hDB hm hmx HSelf
  go_wp2_with fail
  refine (unhide HR2).mono ?_
  rintro e w6 h6
  rcases h6.2 with ⟨_, _, v6, rfl, ho6⟩ | ⟨hno, _⟩
  case inr => exact absurd ⟨unhide H2, unhide H1⟩ hno
  rw [unhide HD] at ho6
  rw [unhide HK2]
  obtain ⟨a6, c6, rfl, hat6⟩ := ho6.at
  rw [(unhide HDD).1] at hat6 ⊢
  have hb6 : Below w.heap.size w w6 := (unhide HB5).trans (h6.1.mono (unhide HB5).size)
  have hb36 : Below w3.heap.size w3 w6 := (unhide HB35).trans (h6.1.mono (unhide HB35).size)
  have HB6 := hide (And.intro hb6 (And.intro hb36 hat6))
  have HM1 := hide (modulo_any p a n c B w6 (unhide HPQ).1 (by have := pth_len (unhide H1); omega) ((unhide HA).1.below hb6) (unhide HA).2.1 (unhide HA).2.2.1 h4 (unhide HMX w6 hb6) (pow_below (unhide HA).2.2.2.2 hb6))
  clear h6 ho6 hat6 hb6 hb36 HR2
  go_wp2_with fail
  refine (unhide HM1).mono ?_
  rintro e w7 h7
  rcases h7.2 with ⟨_, rfl⟩ | ⟨hno, _⟩
  case inr => exact absurd (unhide H1) hno
  have hSl : (modS p B).length = 32 := Dg.Sha.sumBehind_length _ 0 _
  have hb67 := h7.1
  clear h7 HM1
  generalize hSE : modS p B = S at *
  have hsS : (Dg.E8 S).size = 32 := by simp [hSl]
  have hba : Below w7.heap.size w7 (w7.alloc (.cells (Dg.E8 S) 25)) := (Below.refl _ _).alloc (Nat.le_refl _) _
  have hb6a : Below w6.heap.size w6 (w7.alloc (.cells (Dg.E8 S) 25)) := hb67.trans (hba.mono hb67.size)
  have hba0 : Below w.heap.size w (w7.alloc (.cells (Dg.E8 S) 25)) := (unhide HB6).1.trans (hb6a.mono (unhide HB6).1.size)
  have hba3 : Below w3.heap.size w3 (w7.alloc (.cells (Dg.E8 S) 25)) := (unhide HB6).2.1.trans (hb6a.mono (unhide HB6).2.1.size)
  have HM2 := hide (modulo_any q av n cv C (w7.alloc (.cells (Dg.E8 S) 25)) (unhide HPQ).2 (by have := pth_len (unhide H2); omega) ((unhide HC).1.below hba3) (unhide HC).2.1 (unhide HC).2.2 h4 (unhide HMX _ hba0) (pow_below (unhide HA).2.2.2.2 hba0))
  have HBA := hide (And.intro hb6a hba0)
  have HSl := hide hSl
  clear hSE hba hb6a hba0 hba3 hb67
  go_wp2_with fail
  refine (unhide HM2).mono ?_
  rintro e w8 h8
  rcases h8.2 with ⟨_, rfl⟩ | ⟨hno, _⟩
  case inr => exact absurd (unhide H2) hno
  rw [unhide HS]
  have hb8 := h8.1
  have hz8 : w7.heap.size < w8.heap.size := by have := hb8.size; simp at this; omega
  have hx8 : w8.heap[w7.heap.size]? = some (.cells (Dg.E8 S) 25) := by rw [hb8.block _ (by simp)]; exact World.alloc_heap_new w7 _
  obtain ⟨w9, hw9⟩ : ∃ w9, w8.alloc (.cells (Dg.E8 S) 25) = w9 := ⟨_, rfl⟩
  have hb89 : Below w8.heap.size w8 w9 := by rw [← hw9]; exact (Below.refl _ _).alloc (Nat.le_refl _) _
  have hz9 : w9.heap.size = w8.heap.size + 1 := by rw [← hw9]; simp
  have hx9 : w9.heap[w7.heap.size]? = some (.cells (Dg.E8 S) 25) := by rw [hb89.block _ hz8]; exact hx8
  have hy9 : w9.heap[w8.heap.size]? = some (.cells (Dg.E8 S) 25) := by rw [← hw9]; exact World.alloc_heap_new w8 _
  have hb69 : Below w6.heap.size w6 w9 := (unhide HBA).1.trans ((hb8.trans (hb89.mono hb8.size)).mono (unhide HBA).1.size)
  have hb9 : Below w.heap.size w w9 := (unhide HBA).2.trans ((hb8.trans (hb89.mono hb8.size)).mono (unhide HBA).2.size)
  have HSm := hide (same_any a6 a n n c6 c D B w9 ((unhide HB6).2.2.below hb69) ((unhide HA).1.below hb9) (unhide HDD).1 (unhide HA).2.2.1 (by omega) (by omega))
  rw [decide_eq_true (unhide HDB)] at HSm
  have HX9 := hide (And.intro hx9 (And.intro hy9 hb9))
  clear h8 hb8 hx8 hb89 hx9 hy9 hb69 hb9 HM2 HBA
  go_wp2_with fail
  refine (unhide HSm).mono ?_
  rintro e wA ⟨⟨qA, hwA⟩, rfl⟩
  obtain ⟨hx9, hy9, hb9⟩ := unhide HX9
  have hbA : Below w9.heap.size w9 wA := by rw [hwA]; exact ⟨rfl, rfl, rfl, Nat.le_refl _, fun _ _ => rfl⟩
  have hxA : wA.heap[w7.heap.size]? = some (.cells (Dg.E8 S) 25) := by rw [hwA]; exact hx9
  have hyA : wA.heap[w8.heap.size]? = some (.cells (Dg.E8 S) 25) := by rw [hwA]; exact hy9
  have ho1 : Dg.rowOf wA w7.heap.size = Dg.E8 S := by unfold Dg.rowOf; rw [hxA]
  have ho2 : Dg.rowOf wA w8.heap.size = Dg.E8 S := by unfold Dg.rowOf; rw [hyA]
  have hEq := fun W => Dg.run_eqB W S hSl
  have hg := fun (W : World) (x y : Operand) => run_eqGuard_agg (P := Tryz.prog) (w := W) .eql 25 x y (Dg.E8 S) (Dg.E8 S) Dg.guard25
  have hsz1 : (Dg.rowOf wA w7.heap.size).size = 32 := by rw [ho1]; exact hsS
  have hsz2 : (Dg.rowOf wA w8.heap.size).size = 32 := by rw [ho2]; exact hsS
  have HBA := hide (hb9.trans (hbA.mono hb9.size))
  have HKn := hide (known_any wA)
  clear hwA hx9 hy9 hb9 hbA hxA hyA HSm HX9 hw9 hz9
  go_wp2_with fail
  refine (unhide HKn).mono ?_
  rintro e wB ⟨rfl, hbB⟩
  have HBB := hide ((unhide HBA).trans (hbB.mono (unhide HBA).size))
  clear hbB HKn HBA hEq hg ho1 ho2 hsz1 hsz2
  go_wp2_with fail
  go_ret
  exact ⟨rfl, unhide HBB⟩
end Go.Proofs.YtlbfcneboaihnaaGreatDoor
