/- with: the path of what is added with refs, in the document's own answer. -/
import Derived.Test.YtfoghaocfkcggaaAdded
import Derived.Test.YtfoghaocfkcggaaLay
namespace Go.Proofs.Ytfoghaocfkcggaa
open Go.RowKit Go.Great
theorem makeRefA_yes (k : Ord.S) (n l : List Nat) (w : World) (hl : l.length = 32) (hb : Sha.Bytes l) (hk : k.length ≤ 150000) (hnb : Sha.Bytes n) (hn : Sha.isNm n = true) :
    Calls Try.prog 12 #[.string ⟨k.toArray⟩, .agg (E8 l), .string (strOf n)] w fun e w' => e = .returned (.tuple #[.string (strOf (Sha.pathOf (natsOf k) l n)), .int .i64 0]) ∧ Below w.heap.size w w' := by
  rw [← strOf_nats]
  exact makeRef_yes (natsOf k) n l w hl hb (natsOf_bytes k) (by rw [natsOf_length]; exact hk) hnb hn
theorem arr_colon (a b : Ord.S) : (⟨a.toArray⟩ : ByteArray) ++ ⟨#[58]⟩ ++ ⟨b.toArray⟩ = ⟨(a ++ (58 :: b)).toArray⟩ := by
  apply ByteArray.ext
  simp [ByteArray.data_append]
set_option maxRecDepth 20000 in
set_option maxHeartbeats 1000000 in
theorem with_no (k : ByteArray) (v : Value) (n l : List Nat) (w : World) (hnb : Sha.Bytes n) (hm : n.length ≤ 9223372036854775807) (hn : Sha.isNm n = false) :
    Calls Try.prog 37 #[.string k, .agg (E8 l), v, .string (strOf n)] w fun e w' => e = .returned (.tuple #[.string ⟨#[]⟩, .int .i64 9]) ∧ Below w.heap.size w w' := by
  go_enter Try.func37, Try.ntmps37
  go_wp2_with (go_at_call 9; refine (isNameRef_l n _ hnb hm).mono ?_; rintro e w' ⟨rfl, hw'⟩; rw [hw', hn]; clear hw' w')
  go_ret2
  exact ⟨rfl, (Below.refl _ _).alloc (Nat.le_refl _) _⟩
set_option maxRecDepth 20000 in
set_option maxHeartbeats 1000000 in
theorem with_some (k : Ord.S) (g o c : Nat) (Z : List Ord.S) (n l : List Nat) (w : World) (hl : l.length = 32) (hlb : Sha.Bytes l) (hk : k.length ≤ 10) (hnb : Sha.Bytes n) (hn : Sha.isNm n = true) (hv : StrsAt w (.slice (some ⟨g, o, none⟩) Z.length c) Z) (hZl : ∀ z ∈ Z, z.length ≤ 281474976710656) (h0 : 0 < Z.length) (hmax : Z.length ≤ 600) :
    Calls Try.prog 37 #[.string ⟨k.toArray⟩, .agg (E8 l), .slice (some ⟨g, o, none⟩) Z.length c, .string (strOf n)] w fun e w' => Below w.heap.size w w' ∧ (((∀ z ∈ Z, Sha.isPth (natsOf z)) ∧ e = .returned (.tuple #[.string (strOf (Sha.pathOf (natsOf (Ord.kindU k (Ord.uniq Z))) l n)), .int .i64 0])) ∨
      ((∃ z ∈ Z, ¬ Sha.isPth (natsOf z)) ∧ e = .returned (.tuple #[.string ⟨#[]⟩, .int .i64 3]))) := by
  have hnl := isNm_len hn
  go_enter Try.func37, Try.ntmps37
  go_wp2_with (go_at_call 9; refine (isNameRef_l n _ hnb (by omega)).mono ?_; rintro e w' ⟨rfl, hw'⟩; rw [hw', hn]; clear hw' w')
  have hwA : Below w.heap.size w (w.alloc (.cells (E8 l) 25)) := (Below.refl _ _).alloc (Nat.le_refl _) _
  have hrA : rowOf (w.alloc (.cells (E8 l) 25)) w.heap.size = E8 l := by simp [go_sem]
  have hzA : w.heap.size + 1 ≤ (w.alloc (.cells (E8 l) 25)).heap.size := by simp
  obtain ⟨N, hN⟩ : ∃ N, N = Z.length := ⟨_, rfl⟩
  rw [← hN] at hv h0 hmax ⊢
  have HV := hide hv
  have HC : Hid (g < w.heap.size ∧ ∀ i, i < N → w.cell? ⟨g, o + i, none⟩ = some (.string ⟨(Z.getD i []).toArray⟩)) := by
    obtain ⟨a, cap, e, hc, hm⟩ := hv
    cases e
    obtain ⟨b, o', ea, hb, hcell⟩ := hm (by omega)
    cases ea
    exact ⟨hb, fun i hi => hcell i (by omega)⟩
  have HM : Hid (∀ i, i < N → Z.getD i [] ∈ Z) := fun i hi => by
    rw [List.getD_eq_getElem?_getD, List.getElem?_eq_getElem (by omega)]; exact List.getElem_mem _
  have HA : Hid (∀ z ∈ Z, ∃ i, i < N ∧ Z.getD i [] = z) := fun z hz => by
    obtain ⟨i, hi, rfl⟩ := List.getElem_of_mem hz
    exact ⟨i, by omega, by rw [List.getD_eq_getElem?_getD, List.getElem?_eq_getElem hi]; rfl⟩
  have HZl := hide hZl
  have HN := hide hN
  clear hv hZl hN
  generalize w.alloc (.cells (E8 l) 25) = wA at *
  go_loopw [10] (fun vi wr => ∃ i : Nat, i ≤ N ∧ vi = .int .i64 (i : Int) ∧ Below w.heap.size w wr ∧ rowOf wr w.heap.size = E8 l ∧ w.heap.size + 1 ≤ wr.heap.size ∧ Hid (∀ j, j < i → Sha.isPth (natsOf (Z.getD j [])))) (fun vi _ => N - (intOf vi).toNat)
  case atStart => exact ⟨0, by omega, rfl, hwA, hrA, hzA, fun j hj => by omega⟩
  case round =>
    obtain ⟨i, hi, rfl, hbl, hrow, hz, hall⟩ := hrel
    by_cases hlt : i < N
    · have hci : wr.cell? ⟨g, o + i, none⟩ = some (.string ⟨(Z.getD i []).toArray⟩) := by
        rw [hbl.cell (p := ⟨g, o + i, none⟩) (unhide HC).1]; exact (unhide HC).2 i hlt
      have hmem := unhide HM i hlt
      have hzl := unhide HZl _ hmem
      have HX : Hid (Sha.isPth (natsOf (Z.getD i [])) → ∀ j, j < i + 1 → Sha.isPth (natsOf (Z.getD j []))) := fun h j hj => by
        by_cases hji : j = i
        · rw [hji]; exact h
        · exact unhide hall j (by omega)
      have HMe := hide hmem
      clear hmem
      generalize Z.getD i [] = z at *
      go_wp2_with fail
      refine (isRef_any z _ hzl).mono ?_
      rintro e w2 ⟨hb2, ⟨hp, rfl⟩ | ⟨hp, rfl⟩⟩
      · have hbl2 : Below w.heap.size w w2 := hbl.trans (hb2.mono (by omega))
        have hrow2 : rowOf w2 w.heap.size = E8 l := by rw [below_rowOf hb2 (by omega)]; exact hrow
        have hz2 : w.heap.size + 1 ≤ w2.heap.size := by have := hb2.size; omega
        have HP := hide (unhide HX hp)
        clear hp hb2
        go_wp2
        go_roundw
        case rel => exact ⟨i + 1, by omega, by go_num, hbl2, hrow2, hz2, unhide HP⟩
        case measure => simp [intOf]; try omega
      · have hbl2 : Below w.heap.size w w2 := hbl.trans (hb2.mono (by omega))
        have HP := hide hp
        clear hp hb2
        go_wp2
        go_ret2
        exact ⟨hbl2, .inr ⟨⟨z, unhide HMe, unhide HP⟩, rfl⟩⟩
    · obtain rfl : i = N := by omega
      have HAll : Hid (∀ z ∈ Z, Sha.isPth (natsOf z)) := fun z hz => by
        obtain ⟨j, hj, rfl⟩ := unhide HA z hz
        exact unhide hall j hj
      have hSv : StrsAt wr (.slice (some ⟨g, o, none⟩) i c) Z := (unhide HV).below hbl
      have HSv := hide hSv
      clear hSv
      go_wp2_with fail
      refine (rising_any _ Z _ (unhide HSv) (by have := unhide HN; omega)).mono ?_
      rintro e w2 ⟨v2, rfl, hs2, hb2⟩
      have hN := unhide HN
      have hul := Ord.uniq_length Z
      have hup : ∀ z ∈ Ord.uniq Z, z.length ≤ 113 := fun z hz => by
        have := isPth_len (unhide HAll z ((Ord.uniq_mem Z z).1 hz))
        rwa [natsOf_length] at this
      have hKl := kindU_len hk hup (by omega)
      generalize hU : Ord.uniq Z = U at *
      have HU := hide hU
      clear hU
      have HUP := hide hup
      have hrow2 : rowOf w2 w.heap.size = E8 l := by rw [below_rowOf hb2 (by omega)]; exact hrow
      have hbl2 : Below w.heap.size w w2 := hbl.trans (hb2.mono (by omega))
      have hz2 : w.heap.size + 1 ≤ w2.heap.size := by have := hb2.size; omega
      obtain ⟨a2, c2, rfl, hc2, hx2⟩ := hs2
      obtain ⟨M, hM⟩ : ∃ M, M = U.length := ⟨_, rfl⟩
      rw [← hM]
      have HC2 : Hid (∀ i, i < M → ∃ b o, a2 = some ⟨b, o, none⟩ ∧ w2.cell? ⟨b, o + i, none⟩ = some (.string ⟨(U.getD i []).toArray⟩)) := fun i hi => by
        obtain ⟨b, o, ea, hb, hcell⟩ := hx2 (by omega)
        exact ⟨b, o, ea, hcell i (by omega)⟩
      have HK0 : Hid (Ord.kindTo k U 0 = k) := rfl
      have HKS : Hid (∀ i, Ord.kindTo k U (i + 1) = Ord.kindTo k U i ++ (58 :: U.getD i [])) := fun i => rfl
      have HKU : Hid (Ord.kindU k U = Ord.kindTo k U M) := by unfold Ord.kindU; rw [← hM]; exact rfl
      have HKL : Hid (∀ i, i ≤ M → (Ord.kindTo k U i).length ≤ 10 + i * 114 ∧ (U.getD i []).length ≤ 113) := fun i hi => by
        have h1 := Ord.kindTo_length k U 113 hup i (by omega)
        refine ⟨by omega, ?_⟩
        rw [List.getD_eq_getElem?_getD]
        cases h : U[i]? with
        | none => simp
        | some z => exact hup z (List.mem_of_getElem? h)
      have hMm : M ≤ 600 := by omega
      have hc2' : M ≤ c2 := by omega
      clear hb2 hbl hrow hz hup hx2 hul hM hc2
      go_wp2_with fail
      go_loopw [0, 12] (fun vk vi wr' => ∃ i : Nat, i ≤ M ∧ vi = .int .i64 (i : Int) ∧ vk = .string ⟨(Ord.kindTo k U i).toArray⟩ ∧ wr' = w2) (fun _ vi _ => M - (intOf vi).toNat)
      case atStart => exact ⟨0, by omega, rfl, by rw [unhide HK0], rfl⟩
      case round =>
        obtain ⟨j, hj, rfl, rfl, hwr⟩ := hrel
        rw [hwr]
        clear hwr
        by_cases hjM : j < M
        · obtain ⟨b2, o2, rfl, hcj⟩ := unhide HC2 j hjM
          obtain ⟨hkl1, hkl2⟩ := unhide HKL j hj
          have hcat := arr_colon (Ord.kindTo k U j) (U.getD j [])
          rw [← unhide HKS j] at hcat
          have hn1 : ¬ (9223372036854775807 < (Ord.kindTo k U j).length + 1) := by omega
          have hn2 : ¬ (9223372036854775807 < (Ord.kindTo k U j).length + 1 + (U.getD j []).length) := by omega
          have hKS := hide (unhide HKS j)
          generalize hz1 : Ord.kindTo k U (j + 1) = K1 at *
          have HZ1 := hide hz1
          clear hz1
          generalize Ord.kindTo k U j = K0 at *
          generalize U.getD j [] = z at *
          go_wp2
          go_roundw
          case rel => exact ⟨j + 1, by omega, by go_num, by rw [unhide HZ1], by first | rfl | trivial⟩
          case measure => simp [intOf]; try omega
        · obtain rfl : j = M := by omega
          rw [unhide HKU] at hKl
          generalize hKJ : Ord.kindTo k U j = KJ at *
          have HKJ := hide hKJ
          clear hKJ
          go_wp2_with fail
          refine (makeRefA_yes KJ n l _ hl hlb hKl hnb hn).mono ?_
          rintro e w6 ⟨rfl, hb6⟩
          have hbl6 : Below w.heap.size w w6 := hbl2.trans (hb6.mono (by omega))
          go_wp2
          go_ret2
          exact ⟨hbl6, .inl ⟨unhide HAll, by rw [unhide HU, unhide HKU]; rfl⟩⟩
set_option maxRecDepth 20000 in
set_option maxHeartbeats 1000000 in
theorem with_none (k : Ord.S) (a : Option Addr) (c : Nat) (n l : List Nat) (w : World) (hl : l.length = 32) (hlb : Sha.Bytes l) (hk : k.length ≤ 10) (hnb : Sha.Bytes n) (hn : Sha.isNm n = true) :
    Calls Try.prog 37 #[.string ⟨k.toArray⟩, .agg (E8 l), .slice a 0 c, .string (strOf n)] w fun e w' => Below w.heap.size w w' ∧ e = .returned (.tuple #[.string (strOf (Sha.pathOf (natsOf (Ord.kindU k (Ord.uniq []))) l n)), .int .i64 0]) := by
  obtain ⟨Z, hZe⟩ : ∃ Z : List Ord.S, Z = [] := ⟨_, rfl⟩
  rw [← hZe]
  have hnl := isNm_len hn
  have hwA : Below w.heap.size w (w.alloc (.cells (E8 l) 25)) := (Below.refl _ _).alloc (Nat.le_refl _) _
  have hrA : rowOf (w.alloc (.cells (E8 l) 25)) w.heap.size = E8 l := by simp [go_sem]
  have hzA : w.heap.size + 1 ≤ (w.alloc (.cells (E8 l) 25)).heap.size := by simp
  go_enter Try.func37, Try.ntmps37
  go_wp2_with (go_at_call 9; refine (isNameRef_l n _ hnb (by omega)).mono ?_; rintro e w' ⟨rfl, hw'⟩; rw [hw', hn]; clear hw' w')
  generalize w.alloc (.cells (E8 l) 25) = wr at *
  go_loopw [10] (fun vi w' => vi = .int .i64 0 ∧ w' = wr) (fun _ _ => 0)
  case atStart => exact ⟨rfl, rfl⟩
  case round =>
    obtain ⟨rfl, rfl⟩ := hrel
    have hSv : StrsAt wr (.slice a 0 c) Z := by rw [hZe]; exact ⟨a, c, rfl, by simp, fun h => by simp at h⟩
    have HSv := hide hSv
    have HN : Hid (0 = Z.length) := by rw [hZe]; exact rfl
    have HAll : Hid (∀ z ∈ Z, Sha.isPth (natsOf z)) := by rw [hZe]; exact fun z hz => by simp at hz
    have hbl := hwA
    have hrow := hrA
    have hz := hzA
    have hmax : (0 : Nat) ≤ 600 := by omega
    clear hSv hZe
    go_wp2_with fail
    refine (rising_any _ Z _ (unhide HSv) (by have := unhide HN; omega)).mono ?_
    rintro e w2 ⟨v2, rfl, hs2, hb2⟩
    have hN : Z.length = 0 := (unhide HN).symm
    have hul := Ord.uniq_length Z
    have hup : ∀ z ∈ Ord.uniq Z, z.length ≤ 113 := fun z hz => by
      have := isPth_len (unhide HAll z ((Ord.uniq_mem Z z).1 hz))
      rwa [natsOf_length] at this
    have hKl := kindU_len hk hup (by omega)
    generalize hU : Ord.uniq Z = U at *
    have HU := hide hU
    clear hU
    have HUP := hide hup
    have hrow2 : rowOf w2 w.heap.size = E8 l := by rw [below_rowOf hb2 (by omega)]; exact hrow
    have hbl2 : Below w.heap.size w w2 := hbl.trans (hb2.mono (by omega))
    have hz2 : w.heap.size + 1 ≤ w2.heap.size := by have := hb2.size; omega
    obtain ⟨a2, c2, rfl, hc2, hx2⟩ := hs2
    obtain ⟨M, hM⟩ : ∃ M, M = U.length := ⟨_, rfl⟩
    rw [← hM]
    have HC2 : Hid (∀ i, i < M → ∃ b o, a2 = some ⟨b, o, none⟩ ∧ w2.cell? ⟨b, o + i, none⟩ = some (.string ⟨(U.getD i []).toArray⟩)) := fun i hi => by
      obtain ⟨b, o, ea, hb, hcell⟩ := hx2 (by omega)
      exact ⟨b, o, ea, hcell i (by omega)⟩
    have HK0 : Hid (Ord.kindTo k U 0 = k) := rfl
    have HKS : Hid (∀ i, Ord.kindTo k U (i + 1) = Ord.kindTo k U i ++ (58 :: U.getD i [])) := fun i => rfl
    have HKU : Hid (Ord.kindU k U = Ord.kindTo k U M) := by unfold Ord.kindU; rw [← hM]; exact rfl
    have HKL : Hid (∀ i, i ≤ M → (Ord.kindTo k U i).length ≤ 10 + i * 114 ∧ (U.getD i []).length ≤ 113) := fun i hi => by
      have h1 := Ord.kindTo_length k U 113 hup i (by omega)
      refine ⟨by omega, ?_⟩
      rw [List.getD_eq_getElem?_getD]
      cases h : U[i]? with
      | none => simp
      | some z => exact hup z (List.mem_of_getElem? h)
    have hMm : M ≤ 600 := by omega
    have hc2' : M ≤ c2 := by omega
    clear hb2 hbl hrow hz hup hx2 hul hM hc2
    go_wp2_with fail
    go_loopw [0, 12] (fun vk vi wr' => ∃ i : Nat, i ≤ M ∧ vi = .int .i64 (i : Int) ∧ vk = .string ⟨(Ord.kindTo k U i).toArray⟩ ∧ wr' = w2) (fun _ vi _ => M - (intOf vi).toNat)
    case atStart => exact ⟨0, by omega, rfl, by rw [unhide HK0], rfl⟩
    case round =>
      obtain ⟨j, hj, rfl, rfl, hwr⟩ := hrel
      rw [hwr]
      clear hwr
      by_cases hjM : j < M
      · obtain ⟨b2, o2, rfl, hcj⟩ := unhide HC2 j hjM
        obtain ⟨hkl1, hkl2⟩ := unhide HKL j hj
        have hcat := arr_colon (Ord.kindTo k U j) (U.getD j [])
        rw [← unhide HKS j] at hcat
        have hn1 : ¬ (9223372036854775807 < (Ord.kindTo k U j).length + 1) := by omega
        have hn2 : ¬ (9223372036854775807 < (Ord.kindTo k U j).length + 1 + (U.getD j []).length) := by omega
        have hKS := hide (unhide HKS j)
        generalize hz1 : Ord.kindTo k U (j + 1) = K1 at *
        have HZ1 := hide hz1
        clear hz1
        generalize Ord.kindTo k U j = K0 at *
        generalize U.getD j [] = z at *
        go_wp2
        go_roundw
        case rel => exact ⟨j + 1, by omega, by go_num, by rw [unhide HZ1], by first | rfl | trivial⟩
        case measure => simp [intOf]; try omega
      · obtain rfl : j = M := by omega
        rw [unhide HKU] at hKl
        generalize hKJ : Ord.kindTo k U j = KJ at *
        have HKJ := hide hKJ
        clear hKJ
        go_wp2_with fail
        refine (makeRefA_yes KJ n l _ hl hlb hKl hnb hn).mono ?_
        rintro e w6 ⟨rfl, hb6⟩
        have hbl6 : Below w.heap.size w w6 := hbl2.trans (hb6.mono (by omega))
        go_wp2
        go_ret2
        exact ⟨hbl6, by rw [unhide HU, unhide HKU]; rfl⟩
end Go.Proofs.Ytfoghaocfkcggaa
