/- added: the path of what is added with refs, in the code. -/
import Derived.Test.YtfoghaocfkcggaaKind
namespace Go.Proofs.Ytfoghaocfkcggaa
open Go.RowKit Go.Great
theorem OwnS.drewN {w : World} {base : Nat} {v : Value} {Z : List Ord.S} (h : OwnS w base v Z) (m : Nat) : OwnS (w.drewN m) base v Z := by
  rcases h with ⟨rfl, rfl⟩ | ⟨g, c, rfl, hg, hl, hc, hh⟩
  · exact .inl ⟨rfl, rfl⟩
  · exact .inr ⟨g, c, rfl, hg, hl, hc, hh⟩
theorem isPth_len {p : List Nat} (h : Sha.isPth p) : p.length ≤ 113 := by
  have h1 := (isNm_len h.2.2.1).2
  rw [List.length_drop] at h1
  omega
theorem kindU_len {k : Ord.S} {Z : List Ord.S} (hk : k.length ≤ 10) (hZ : ∀ z ∈ Z, z.length ≤ 113) (hn : Z.length ≤ 1024) : (Ord.kindU k Z).length ≤ 150000 := by
  have := Ord.kindTo_length k Z 113 hZ Z.length (Nat.le_refl _)
  unfold Ord.kindU
  omega
theorem makeA_yes (k : Ord.S) (n l : List Nat) (w : World) (hl : l.length = 32) (hb : Sha.Bytes l) (hk : k.length ≤ 150000) (hnb : Sha.Bytes n) (hn : Sha.isNm n = true) :
    Calls Try.prog 11 #[.string ⟨k.toArray⟩, .agg (E8 l), .string (strOf n)] w fun e w' => e = .returned (.tuple #[.string (strOf (Sha.pathOf (natsOf k) l n)), .int .i64 0]) ∧ Below w.heap.size w w' := by
  rw [← strOf_nats]
  exact make_yes (natsOf k) n l w hl hb (natsOf_bytes k) (by rw [natsOf_length]; exact hk) hnb hn
theorem isPathA_any (z : Ord.S) (w : World) (hm : z.length ≤ 281474976710656) :
    Calls Try.prog 33 #[.string ⟨z.toArray⟩] w fun e w' => Below w.heap.size w w' ∧ ((Sha.isPth (natsOf z) ∧ e = .returned (.bool true)) ∨ (¬ Sha.isPth (natsOf z) ∧ e = .returned (.bool false))) := by
  rw [← strOf_nats]
  exact isPath_any (natsOf z) w (natsOf_bytes z) (by rw [natsOf_length]; omega)
set_option maxRecDepth 20000 in
set_option maxHeartbeats 1000000 in
theorem added_no (k : ByteArray) (v : Value) (n l : List Nat) (w : World) (hnb : Sha.Bytes n) (hm : n.length ≤ 9223372036854775807) (hn : Sha.isNm n = false) :
    Calls Try.prog 36 #[.string k, .agg (E8 l), v, .string (strOf n)] w fun e w' => e = .returned (.tuple #[.string ⟨#[]⟩, .int .i64 9]) ∧ Below w.heap.size w w' := by
  go_enter Try.func36, Try.ntmps36
  go_wp2_with (go_at_call 8; refine (isName_l n _ hnb hm).mono ?_; rintro e w' ⟨rfl, hw'⟩; rw [hw', hn]; clear hw' w')
  go_ret2
  exact ⟨rfl, (Below.refl _ _).alloc (Nat.le_refl _) _⟩
set_option maxRecDepth 20000 in
set_option maxHeartbeats 1000000 in
theorem added_some (k : Ord.S) (g o c : Nat) (Z : List Ord.S) (n l : List Nat) (w : World) (hl : l.length = 32) (hlb : Sha.Bytes l) (hk : k.length ≤ 10) (hnb : Sha.Bytes n) (hn : Sha.isNm n = true) (hv : StrsAt w (.slice (some ⟨g, o, none⟩) Z.length c) Z) (hZl : ∀ z ∈ Z, z.length ≤ 281474976710656) (h0 : 0 < Z.length) (hmax : Z.length ≤ 600) :
    Calls Try.prog 36 #[.string ⟨k.toArray⟩, .agg (E8 l), .slice (some ⟨g, o, none⟩) Z.length c, .string (strOf n)] w fun e w' => Below w.heap.size w w' ∧ (((∀ z ∈ Z, Sha.isPth (natsOf z)) ∧ e = .returned (.tuple #[.string (strOf (Sha.pathOf (natsOf (Ord.kindU k (Ord.uniq Z))) l n)), .int .i64 0])) ∨
      ((∃ z ∈ Z, ¬ Sha.isPth (natsOf z)) ∧ e = .returned (.tuple #[.string ⟨#[]⟩, .int .i64 3]))) := by
  have hnl := isNm_len hn
  go_enter Try.func36, Try.ntmps36
  go_wp2_with (go_at_call 8; refine (isName_l n _ hnb (by omega)).mono ?_; rintro e w' ⟨rfl, hw'⟩; rw [hw', hn]; clear hw' w')
  have hwA : Below w.heap.size w (w.alloc (.cells (E8 l) 25)) := (Below.refl _ _).alloc (Nat.le_refl _) _
  have hrA : rowOf (w.alloc (.cells (E8 l) 25)) w.heap.size = E8 l := by simp [go_sem]
  have hzA : w.heap.size + 1 ≤ (w.alloc (.cells (E8 l) 25)).heap.size := by simp
  obtain ⟨N, hN⟩ : ∃ N, N = Z.length := ⟨_, rfl⟩
  rw [← hN] at hv h0 hmax ⊢
  have HV := hide hv
  have HC : Hid (g < w.heap.size ∧ ∀ i, i < N → w.cell? ⟨g, o + i, none⟩ = some (.string ⟨(Z.getD i []).toArray⟩)) := by
    obtain ⟨a, cap, e, hc, hm⟩ := hv
    cases e
    obtain ⟨b, o', ea, hb, hcell⟩ := hm (by omega)
    cases ea
    exact ⟨hb, fun i hi => hcell i (by omega)⟩
  have HM : Hid (∀ i, i < N → Z.getD i [] ∈ Z) := fun i hi => by
    rw [List.getD_eq_getElem?_getD, List.getElem?_eq_getElem (by omega)]; exact List.getElem_mem _
  have HA : Hid (∀ z ∈ Z, ∃ i, i < N ∧ Z.getD i [] = z) := fun z hz => by
    obtain ⟨i, hi, rfl⟩ := List.getElem_of_mem hz
    exact ⟨i, by omega, by rw [List.getD_eq_getElem?_getD, List.getElem?_eq_getElem hi]; rfl⟩
  have HZl := hide hZl
  have HN := hide hN
  clear hv hZl hN
  generalize w.alloc (.cells (E8 l) 25) = wA at *
  go_loopw [18] (fun vi wr => ∃ i : Nat, i ≤ N ∧ vi = .int .i64 (i : Int) ∧ Below w.heap.size w wr ∧ rowOf wr w.heap.size = E8 l ∧ w.heap.size + 1 ≤ wr.heap.size ∧ Hid (∀ j, j < i → Sha.isPth (natsOf (Z.getD j [])))) (fun vi _ => N - (intOf vi).toNat)
  case atStart => exact ⟨0, by omega, rfl, hwA, hrA, hzA, fun j hj => by omega⟩
  case round =>
    obtain ⟨i, hi, rfl, hbl, hrow, hz, hall⟩ := hrel
    by_cases hlt : i < N
    · have hci : wr.cell? ⟨g, o + i, none⟩ = some (.string ⟨(Z.getD i []).toArray⟩) := by
        rw [hbl.cell (p := ⟨g, o + i, none⟩) (unhide HC).1]; exact (unhide HC).2 i hlt
      have hmem := unhide HM i hlt
      have hzl := unhide HZl _ hmem
      have HX : Hid (Sha.isPth (natsOf (Z.getD i [])) → ∀ j, j < i + 1 → Sha.isPth (natsOf (Z.getD j []))) := fun h j hj => by
        by_cases hji : j = i
        · rw [hji]; exact h
        · exact unhide hall j (by omega)
      have HMe := hide hmem
      clear hmem
      generalize Z.getD i [] = z at *
      go_wp2_with fail
      refine (isPathA_any z _ hzl).mono ?_
      rintro e w2 ⟨hb2, ⟨hp, rfl⟩ | ⟨hp, rfl⟩⟩
      · have hbl2 : Below w.heap.size w w2 := hbl.trans (hb2.mono (by omega))
        have hrow2 : rowOf w2 w.heap.size = E8 l := by rw [below_rowOf hb2 (by omega)]; exact hrow
        have hz2 : w.heap.size + 1 ≤ w2.heap.size := by have := hb2.size; omega
        have HP := hide (unhide HX hp)
        clear hp hb2
        go_wp2
        go_roundw
        case rel => exact ⟨i + 1, by omega, by go_num, hbl2, hrow2, hz2, unhide HP⟩
        case measure => simp [intOf]; try omega
      · have hbl2 : Below w.heap.size w w2 := hbl.trans (hb2.mono (by omega))
        have HP := hide hp
        clear hp hb2
        go_wp2
        go_ret2
        exact ⟨hbl2, .inr ⟨⟨z, unhide HMe, unhide HP⟩, rfl⟩⟩
    · obtain rfl : i = N := by omega
      have HAll : Hid (∀ z ∈ Z, Sha.isPth (natsOf z)) := fun z hz => by
        obtain ⟨j, hj, rfl⟩ := unhide HA z hz
        exact unhide hall j hj
      have hSv : StrsAt wr (.slice (some ⟨g, o, none⟩) i c) Z := (unhide HV).below hbl
      have HSv := hide hSv
      clear hSv
      go_wp2_with fail
      refine (cloneS_any _ _ _ Z _ (unhide HN).symm (unhide HSv) (by omega)).mono ?_
      rintro e w2 ⟨v2, rfl, ho2, hb2⟩
      have hbz2 : wr.heap.size ≤ w2.heap.size := hb2.size
      have hN := unhide HN
      go_wp2_with fail
      refine (sortS_any wr.heap.size v2 Z _ ho2 hbz2 (by omega)).mono ?_
      rintro e w3 ⟨rfl, ho3, hb3⟩
      have hb3' : Below wr.heap.size wr w3 := hb2.trans hb3
      have hrow3 : rowOf w3 w.heap.size = E8 l := by rw [below_rowOf hb3' (by omega)]; exact hrow
      have hul := Ord.uniq_length Z
      have hup : ∀ z ∈ Ord.uniq Z, z.length ≤ 113 := fun z hz => by
        have := isPth_len (unhide HAll z ((Ord.uniq_mem Z z).1 hz))
        rwa [natsOf_length] at this
      have hKl := kindU_len hk hup (by omega)
      have HO3 : Hid (∀ m, Calls Try.prog 52 #[v2] (w3.drewN m) fun e w' => ∃ u, e = .returned u ∧ StrsAt w' u (Ord.uniq Z) ∧ Below wr.heap.size (w3.drewN m) w') := fun m => compactS_any wr.heap.size v2 _ _ (ho3.drewN m) (by rw [List.length_mergeSort]; omega)
      have HB3 : Hid (∀ m, Below wr.heap.size wr (w3.drewN m)) := fun m => below_drews hb3' m
      have HUP := hide hup
      generalize hU : Ord.uniq Z = U at *
      have HU := hide hU
      clear hU
      generalize hKU : Ord.kindU k U = KU at *
      have HKU := hide hKU
      clear hb2 hb3 ho2 hbz2 ho3 hup hKU
      have hkk : k.length ≤ 1000 := by omega
      have hUl : U.length ≤ 2000 := by omega
      go_wp2
      go_region_with (first
        | (go_at_call 52
           refine (by first | exact unhide HO3 0 | exact unhide HO3 1 | exact unhide HO3 2 : Calls Try.prog 52 #[v2] _ fun e w' => ∃ u, e = .returned u ∧ StrsAt w' u U ∧ Below wr.heap.size _ w').mono ?_
           rintro e w4 ⟨v4, rfl, hs4, hb4⟩
           have hb4' : Below wr.heap.size wr w4 := (by first | exact unhide HB3 0 | exact unhide HB3 1 | exact unhide HB3 2 : Below wr.heap.size wr _).trans hb4
           have hrow4 : rowOf w4 w.heap.size = E8 l := by rw [below_rowOf hb4' (by omega)]; exact hrow
           have HS4 := hide hs4
           clear hb4 hs4)
        | (go_at_call 51
           refine (kindP_any k v4 U _ (by exact unhide HS4) hkk (fun z hz => by have := unhide HUP z hz; omega) hUl).mono ?_
           rw [unhide HKU]
           rintro e w5 ⟨rfl, hb5⟩
           have hb5' : Below wr.heap.size wr w5 := (by first | exact hb4' | exact hb4'.drew : Below wr.heap.size wr _).trans (hb5.mono hb4'.size)
           have hrow5 : rowOf w5 w.heap.size = E8 l := by rw [below_rowOf hb5' (by omega)]; exact hrow
           have hbl5 : Below w.heap.size w w5 := hbl.trans (hb5'.mono (by omega))
           have hz5 : w.heap.size + 1 ≤ w5.heap.size := by have := hb5'.size; omega
           clear hb5)
        | (go_at_call 11
           refine (makeA_yes KU n l _ hl hlb hKl hnb hn).mono ?_
           rintro e w6 ⟨rfl, hb6⟩
           have hbl6 : Below w.heap.size w w6 := (by first | exact hbl5 | exact hbl5.drew : Below w.heap.size w _).trans (hb6.mono (by first | omega | (simp; omega)))
           clear hb6))
      all_goals
        go_wp2
        go_ret2
        exact ⟨hbl6, .inl ⟨unhide HAll, by rw [unhide HU, unhide HKU]; rfl⟩⟩
set_option maxRecDepth 20000 in
set_option maxHeartbeats 1000000 in
theorem added_none (k : Ord.S) (a : Option Addr) (c : Nat) (n l : List Nat) (w : World) (hl : l.length = 32) (hlb : Sha.Bytes l) (hk : k.length ≤ 10) (hnb : Sha.Bytes n) (hn : Sha.isNm n = true) :
    Calls Try.prog 36 #[.string ⟨k.toArray⟩, .agg (E8 l), .slice a 0 c, .string (strOf n)] w fun e w' => Below w.heap.size w w' ∧ e = .returned (.tuple #[.string (strOf (Sha.pathOf (natsOf (Ord.kindU k (Ord.uniq []))) l n)), .int .i64 0]) := by
  obtain ⟨Z, hZe⟩ : ∃ Z : List Ord.S, Z = [] := ⟨_, rfl⟩
  rw [← hZe]
  have hnl := isNm_len hn
  have hwA : Below w.heap.size w (w.alloc (.cells (E8 l) 25)) := (Below.refl _ _).alloc (Nat.le_refl _) _
  have hrA : rowOf (w.alloc (.cells (E8 l) 25)) w.heap.size = E8 l := by simp [go_sem]
  have hzA : w.heap.size + 1 ≤ (w.alloc (.cells (E8 l) 25)).heap.size := by simp
  go_enter Try.func36, Try.ntmps36
  go_wp2_with (go_at_call 8; refine (isName_l n _ hnb (by omega)).mono ?_; rintro e w' ⟨rfl, hw'⟩; rw [hw', hn]; clear hw' w')
  generalize w.alloc (.cells (E8 l) 25) = wr at *
  go_loopw [18] (fun vi w' => vi = .int .i64 0 ∧ w' = wr) (fun _ _ => 0)
  case atStart => exact ⟨rfl, rfl⟩
  case round =>
    obtain ⟨rfl, rfl⟩ := hrel
    have hSv : StrsAt wr (.slice a 0 c) Z := by rw [hZe]; exact ⟨a, c, rfl, by simp, fun h => by simp at h⟩
    have HSv := hide hSv
    have HN : Hid (0 = Z.length) := by rw [hZe]; exact rfl
    have HAll : Hid (∀ z ∈ Z, Sha.isPth (natsOf z)) := by rw [hZe]; exact fun z hz => by simp at hz
    have hbl := hwA
    have hrow := hrA
    have hz := hzA
    have hmax : (0 : Nat) ≤ 600 := by omega
    clear hSv hZe
    go_wp2_with fail
    refine (cloneS_any _ _ _ Z _ (unhide HN).symm (unhide HSv) (by omega)).mono ?_
    rintro e w2 ⟨v2, rfl, ho2, hb2⟩
    have hbz2 : wr.heap.size ≤ w2.heap.size := hb2.size
    have hN : Z.length = 0 := (unhide HN).symm
    go_wp2_with fail
    refine (sortS_any wr.heap.size v2 Z _ ho2 hbz2 (by omega)).mono ?_
    rintro e w3 ⟨rfl, ho3, hb3⟩
    have hb3' : Below wr.heap.size wr w3 := hb2.trans hb3
    have hrow3 : rowOf w3 w.heap.size = E8 l := by rw [below_rowOf hb3' (by omega)]; exact hrow
    have hul := Ord.uniq_length Z
    have hup : ∀ z ∈ Ord.uniq Z, z.length ≤ 113 := fun z hz => by
      have := isPth_len (unhide HAll z ((Ord.uniq_mem Z z).1 hz))
      rwa [natsOf_length] at this
    have hKl := kindU_len hk hup (by omega)
    have HO3 : Hid (∀ m, Calls Try.prog 52 #[v2] (w3.drewN m) fun e w' => ∃ u, e = .returned u ∧ StrsAt w' u (Ord.uniq Z) ∧ Below wr.heap.size (w3.drewN m) w') := fun m => compactS_any wr.heap.size v2 _ _ (ho3.drewN m) (by rw [List.length_mergeSort]; omega)
    have HB3 : Hid (∀ m, Below wr.heap.size wr (w3.drewN m)) := fun m => below_drews hb3' m
    have HUP := hide hup
    generalize hU : Ord.uniq Z = U at *
    have HU := hide hU
    clear hU
    generalize hKU : Ord.kindU k U = KU at *
    have HKU := hide hKU
    clear hb2 hb3 ho2 hbz2 ho3 hup hKU
    have hkk : k.length ≤ 1000 := by omega
    have hUl : U.length ≤ 2000 := by omega
    go_wp2
    go_region_with (first
      | (go_at_call 52
         refine (by first | exact unhide HO3 0 | exact unhide HO3 1 | exact unhide HO3 2 : Calls Try.prog 52 #[v2] _ fun e w' => ∃ u, e = .returned u ∧ StrsAt w' u U ∧ Below wr.heap.size _ w').mono ?_
         rintro e w4 ⟨v4, rfl, hs4, hb4⟩
         have hb4' : Below wr.heap.size wr w4 := (by first | exact unhide HB3 0 | exact unhide HB3 1 | exact unhide HB3 2 : Below wr.heap.size wr _).trans hb4
         have hrow4 : rowOf w4 w.heap.size = E8 l := by rw [below_rowOf hb4' (by omega)]; exact hrow
         have HS4 := hide hs4
         clear hb4 hs4)
      | (go_at_call 51
         refine (kindP_any k v4 U _ (by exact unhide HS4) hkk (fun z hz => by have := unhide HUP z hz; omega) hUl).mono ?_
         rw [unhide HKU]
         rintro e w5 ⟨rfl, hb5⟩
         have hb5' : Below wr.heap.size wr w5 := (by first | exact hb4' | exact hb4'.drew : Below wr.heap.size wr _).trans (hb5.mono hb4'.size)
         have hrow5 : rowOf w5 w.heap.size = E8 l := by rw [below_rowOf hb5' (by omega)]; exact hrow
         have hbl5 : Below w.heap.size w w5 := hbl.trans (hb5'.mono (by omega))
         have hz5 : w.heap.size + 1 ≤ w5.heap.size := by have := hb5'.size; omega
         clear hb5)
      | (go_at_call 11
         refine (makeA_yes KU n l _ hl hlb hKl hnb hn).mono ?_
         rintro e w6 ⟨rfl, hb6⟩
         have hbl6 : Below w.heap.size w w6 := (by first | exact hbl5 | exact hbl5.drew : Below w.heap.size w _).trans (hb6.mono (by first | omega | (simp; omega)))
         clear hb6))
    all_goals
      go_wp2
      go_ret2
      exact ⟨hbl6, by rw [unhide HU, unhide HKU]; rfl⟩
end Go.Proofs.Ytfoghaocfkcggaa
