/- The document's own Sum: the padded row, block by block. -/
import Derived.Test.YtdkhmjiconedkaaBlk
import Derived.Test.YtdkhmjiconedkaaStands
namespace Go.Proofs.Ytdkhmjiconedkaa
namespace Sha
/-- How many noughts stand behind the mark. -/
def gap (n : Nat) : Nat := endOf (n % 64) - 9 - n % 64
theorem gap_lt (n : Nat) : gap n < 64 := by
  unfold gap; have := endOf_cases (n % 64); omega
theorem gap_at (n k : Nat) (h : k ≤ gap n) : (n + 1 + k) % 64 = 56 ↔ k = gap n := by
  unfold gap at h ⊢; have := endOf_cases (n % 64); omega
/-- The padded row. -/
def padded (b : List Nat) : List Nat := b ++ [128] ++ List.replicate (gap b.length) 0 ++ count (8 * b.length)
theorem padded_length (b : List Nat) : (padded b).length = 64 * (b.length / 64 + endOf (b.length % 64) / 64) := by
  unfold padded gap
  have := endOf_cases (b.length % 64)
  simp [count]; omega
theorem padded_bytes {b : List Nat} (h : Bytes b) : Bytes (padded b) :=
  ((h.append (Bytes.one (by omega))).append (Bytes.rep _)).append (count_bytes _)
theorem sum_padded (b : List Nat) : out (blocks start (padded b) (b.length / 64 + endOf (b.length % 64) / 64)) = sum b := by
  have hq : (b.take (b.length - b.length % 64)).length = 64 * (b.length / 64) := by rw [List.length_take]; omega
  have hr : (b.drop (b.length - b.length % 64)).length = b.length % 64 := by rw [List.length_drop]; omega
  unfold sum sumBehind
  rw [← blocks_append start (b.take (b.length - b.length % 64)) _ (b.length / 64) _ hq]
  congr 2
  unfold tail padded gap
  rw [hr, Nat.zero_add]
  simp only [← List.append_assoc]
  rw [List.take_append_drop]
theorem count_take (c J : Nat) (h : J < 8) : (count c).take (8 - J) = (count c).take (8 - (J + 1)) ++ [c / 2 ^ (8 * J) % 256] := by
  match J, h with
  | 0, _ => simp [count]
  | 1, _ => rfl
  | 2, _ => rfl
  | 3, _ => rfl
  | 4, _ => rfl
  | 5, _ => rfl
  | 6, _ => rfl
  | 7, _ => rfl
end Sha
open Go.RowKit Go.Great
theorem OwnB.below' {w w' : World} {base : Nat} {v : Value} {L : List Nat} (h : OwnB w base v L) (hb : Below w.heap.size w w') : OwnB w' base v L := by
  obtain ⟨g, R, rfl, hg, hh⟩ := h
  exact ⟨g, R, rfl, hg, by rw [hb.block g (Array.getElem?_eq_some_iff.1 hh).1]; exact hh⟩
theorem OwnB.bytesAt {w : World} {base : Nat} {v : Value} {L : List Nat} (h : OwnB w base v L) : BytesAt w v L := by
  obtain ⟨g, R, rfl, hg, hh⟩ := h
  exact bytesAt_row w g (L ++ R) L _ _ (by unfold rowOf; rw [hh]) (Array.getElem?_eq_some_iff.1 hh).1 (by simp) (by simp) (List.take_left' rfl)
theorem shr_byte (c J : Nat) (hJ : J < 8) (hc : c < 18446744073709551616) : ((c : Int) / 2 ^ (8 * J)) % 256 = ((c / 2 ^ (8 * J) % 256 : Nat) : Int) := by
  have _ := hJ
  have _ := hc
  have e : ((c : Int) / 2 ^ (8 * J)) = ((c / 2 ^ (8 * J) : Nat) : Int) := by push_cast; rfl
  rw [e]; omega
theorem app_first (w : World) (base : Nat) (a : Option Addr) (b : List Nat) (cap : Nat) (hbase : base = w.heap.size) (hv : BytesAt w (.slice a b.length cap) b) (hmax : b.length ≤ 4000) :
    ∃ v' w', (∀ ty, (app22 ty #[.slice (some ⟨w.heap.size, 0, none⟩) 0 0, .slice a b.length cap]).run Try.prog (w.alloc (.cells #[] 5)) = .ok v' w') ∧ OwnB w' base v' b ∧ Below base w w' ∧ w.heap.size + 1 ≤ w'.heap.size := by
  subst hbase
  have hb0 : Below w.heap.size w (w.alloc (.cells #[] 5)) := (Below.refl _ _).alloc (Nat.le_refl _) _
  by_cases h0 : 0 < b.length
  · obtain ⟨v1, w1, hr1, ho1, hbl1, hz1⟩ := app_own (w.alloc (.cells #[] 5)) w.heap.size (.slice (some ⟨w.heap.size, 0, none⟩) 0 0) [] a b cap ⟨w.heap.size, [], rfl, Nat.le_refl _, heap_alloc_last w _⟩ (hv.below hb0) h0 (by simp; omega)
    exact ⟨v1, w1, hr1, by simpa using ho1, hb0.trans hbl1, by simpa using hz1⟩
  · obtain rfl : b = [] := List.eq_nil_of_length_eq_zero (by omega)
    exact ⟨_, _, app_none (w.alloc (.cells #[] 5)) (some ⟨w.heap.size, 0, none⟩) a 0 0 cap (Nat.le_refl _), ⟨w.heap.size, [], rfl, Nat.le_refl _, heap_alloc_last w _⟩, hb0, by simp⟩
def lenV : Value → Nat
  | .slice _ l _ => l
  | _ => 0
theorem OwnB.len {w : World} {base : Nat} {v : Value} {L : List Nat} (h : OwnB w base v L) : lenV v = L.length := by
  obtain ⟨g, R, rfl, hg, hh⟩ := h; rfl
set_option linter.unusedSimpArgs false in
set_option maxRecDepth 20000 in
set_option maxHeartbeats 2000000 in
theorem refSum_any (a : Option Addr) (n cap : Nat) (b : List Nat) (w : World) (hn : b.length = n) (hv : BytesAt w (.slice a n cap) b) (hb : Sha.Bytes b) (hmax : n ≤ 4000) :
    Calls Try.prog 11 #[.slice a n cap] w fun e w' => e = .returned (.agg (E8 (Sha.sum b))) ∧ Below w.heap.size w w' := by
  subst hn
  have hbA : Below w.heap.size w (w.alloc (.cells Z25 25)) := (Below.refl _ _).alloc (Nat.le_refl _) _
  obtain ⟨v1, w1, hr1, ho1, hbl1, hz1⟩ := app_first (w.alloc (.cells Z25 25)) (w.heap.size + 1) a b cap (by simp) (hv.below hbA) hmax
  have HR1 := hide hr1
  obtain ⟨D, hD⟩ : ∃ D : Nat → List Nat, D = fun k => b ++ [128] ++ List.replicate k 0 := ⟨_, rfl⟩
  have HD0 : Hid (b ++ [128] = D 0) := by rw [hD]; simp [Hid]
  have HDs : Hid (∀ k, D k ++ [0] = D (k + 1)) := fun k => by rw [hD]; simp [List.replicate_succ']
  have HDl : Hid (∀ k, (D k).length = b.length + 1 + k) := fun k => by rw [hD]; simp; omega
  have HDe : Hid (D (Sha.gap b.length) ++ Sha.count (8 * b.length) = Sha.padded b) := by rw [hD]; exact rfl
  have HG : Hid (∀ k, k ≤ Sha.gap b.length → ((b.length + 1 + k) % 64 = 56 ↔ k = Sha.gap b.length)) := fun k hk => Sha.gap_at _ k hk
  have hgl := Sha.gap_lt b.length
  have HPl := hide (Sha.padded_length b)
  have HPb := hide (Sha.padded_bytes hb)
  have HSum := hide (Sha.sum_padded b)
  have HRl : Hid ((Sha.sum b).length = 32) := Sha.sumBehind_length _ _ _
  generalize Sha.sum b = R at *
  generalize Sha.padded b = M at *
  generalize Sha.gap b.length = gp at *
  generalize hCn : Sha.count (8 * b.length) = C at *
  have HCt : Hid (∀ J, J < 8 → C.take (8 - J) = C.take (8 - (J + 1)) ++ [8 * b.length / 2 ^ (8 * J) % 256]) := fun J hJ => by rw [← hCn]; exact Sha.count_take _ J hJ
  have HCl : Hid (C.length = 8) := by rw [← hCn]; exact rfl
  generalize hQ : b.length / 64 + Sha.endOf (b.length % 64) / 64 = Q at *
  have HQb : Hid (Q ≤ 70) := by rw [← hQ]; have := Sha.endOf_cases (b.length % 64); show _ ≤ _; omega
  clear hD hCn hb hr1 hv
  have hbl1' : Below (w.heap.size + 1) (w.alloc (.cells Z25 25)) w1 := hbl1
  have hz1' : w.heap.size + 1 + 1 ≤ w1.heap.size := by simpa using hz1
  go_enter Try.func11, Try.ntmps11
  go_wp2_with fail
  have hr1 := unhide HR1
  simp only [World.size_alloc] at hr1
  rw [hr1]
  clear hr1 HR1
  go_wp2_with fail
  obtain ⟨v2, w2, hr2, ho2, hbl2, hz2⟩ := app_own (w1.alloc (.cells #[.int .u8 128] 5)) (w.heap.size + 1) v1 b (some ⟨w1.heap.size, 0, none⟩) [128] 1 (ho1.alloc _) (one_at w1 128) (by simp) (by simp; omega)
  simp only [List.length_singleton] at hr2
  rw [hr2]
  clear hr2
  have hbl2' : Below (w.heap.size + 1) (w.alloc (.cells Z25 25)) w2 := (hbl1'.alloc (by omega) _).trans hbl2
  rw [unhide HD0] at ho2
  clear hbl1 hbl1' hz1 hz1' hbl2 hz2 ho1
  go_wp2_with fail
  go_loopw [3] (fun v wr => ∃ k : Nat, k ≤ gp ∧ OwnB wr (w.heap.size + 1) v (D k) ∧ Below (w.heap.size + 1) (w.alloc (.cells Z25 25)) wr) (fun v _ => b.length + 100 - lenV v)
  case atStart => exact ⟨0, by omega, ho2, hbl2'⟩
  case round =>
    obtain ⟨k, hk, ho, hbl⟩ := hrel
    clear ho2 hbl2'
    have hDl := unhide HDl k
    have hlv := hide ho.len
    have HO := hide ho
    have hzr : w.heap.size + 1 ≤ wr.heap.size := by have := hbl.size; simpa using this
    obtain ⟨g, Rs, rfl, hg, hh⟩ := ho
    by_cases hlt : k = gp
    · have hm : (b.length + 1 + k) % 64 = 56 := (unhide HG k hk).2 hlt
      subst hlt
      have hm' : (((b.length + 1 + k : Nat) : Int).tmod 64 != 56) = false := by rw [Int.tmod_eq_emod_of_nonneg (by omega), bne_eq_false_iff_eq]; omega
      have hm'' : (((b.length + 1 + k : Nat) : Int) % 64 != 56) = false := by rw [bne_eq_false_iff_eq]; omega
      rw [hDl]
      generalize hX : b.length + 1 + k = X at *
      have ho' : OwnB wr (w.heap.size + 1) (.slice (some ⟨g, 0, none⟩) X (D k ++ Rs).length) (D k) := by rw [← hDl]; exact unhide HO
      generalize (D k ++ Rs).length = Cp at *
      go_wp2_with fail
      go_loopw [3, 5] (fun v vj wr => ∃ J : Nat, J ≤ 8 ∧ vj = .int .i64 ((J : Int) - 1) ∧ OwnB wr (w.heap.size + 1) v (D k ++ C.take (8 - J)) ∧ Below (w.heap.size + 1) (w.alloc (.cells Z25 25)) wr) (fun _ vj _ => (intOf vj + 1).toNat)
      case atStart => exact ⟨8, by omega, rfl, by rw [Nat.sub_self, List.take_zero, List.append_nil]; exact ho', hbl⟩
      case round =>
        clear ho' HO hlv hbl hzr hg hh
        rename_i wr0 v0 vj0
        obtain ⟨J, hJ, rfl, ho, hbl⟩ := hrel
        by_cases hJ0 : 0 < J
        · obtain ⟨J, rfl⟩ : ∃ q, J = q + 1 := ⟨J - 1, by omega⟩
          rw [show (((J + 1 : Nat) : Int) - 1) = (J : Int) by omega]
          have hsh := shr_byte (8 * b.length) J (by omega) (by omega)
          rw [show ((8 * b.length : Nat) : Int) = (b.length : Int) * 8 by omega] at hsh
          have hC := hide (unhide HCt J (by omega))
          generalize 8 * b.length / 2 ^ (8 * J) % 256 = x at *
          have hzr : w.heap.size + 1 ≤ wr.heap.size := by have := hbl.size; simpa using this
          have hCl : Hid ((C.take (8 - (J + 1))).length ≤ 8) := by show _ ≤ _; rw [List.length_take, unhide HCl]; omega
          go_wp2_with fail
          obtain ⟨v', w', hr, ho2, hbl', hz'⟩ := app_own (wr.alloc (.cells #[.int .u8 (x : Int)] 5)) (w.heap.size + 1) _ _ (some ⟨wr.heap.size, 0, none⟩) [x] 1 (ho.alloc _) (one_at wr x) (by simp) (by have := unhide hCl; rw [List.length_append, hDl]; simp only [List.length_singleton]; omega)
          simp only [List.length_singleton] at hr
          rw [hr]
          clear hr
          have hbl2 : Below (w.heap.size + 1) (w.alloc (.cells Z25 25)) w' := (hbl.alloc hzr _).trans hbl'
          rw [List.append_assoc, ← unhide hC] at ho2
          go_wp2
          go_roundw
          case rel => exact ⟨J, by omega, by first | rfl | go_num, ho2, hbl2⟩
          case measure => simp [intOf]; try omega
        · obtain rfl : J = 0 := by omega
          rw [show 8 - 0 = 8 from rfl, List.take_of_length_le (by rw [unhide HCl]; omega), unhide HDe] at ho
          go_wp2_with fail
          refine (k_any _).mono ?_
          rintro e w5 ⟨rfl, hb5⟩
          have hz5 : wr.heap.size + 1 ≤ w5.heap.size := by have := hb5.size; simpa using this
          have hr5 : rowOf w5 wr.heap.size = E32 Sha.start.list := by rw [below_rowOf hb5 (by simp)]; simp [go_sem]; rfl
          have hf5 : fits w5 wr.heap.size 8 = true := by rw [below_fits hb5 (by simp)]; simp [go_sem]
          have hb5' : Below wr.heap.size wr w5 := ((Below.refl _ _).alloc (Nat.le_refl _) _).trans (hb5.mono (by simp))
          clear hb5
          obtain ⟨St, hSt⟩ : ∃ St : Nat → Sha.St, St = Sha.blocks Sha.start M := ⟨_, rfl⟩
          have HS0 : Hid (Sha.start = St 0) := by rw [hSt]; exact rfl
          have HSn : Hid (∀ j, St (j + 1) = Sha.block (St j) ((M.drop (64 * j)).take 64)) := fun j => by rw [hSt]; exact rfl
          have HSok : Hid (∀ j, (St j).ok) := fun j => by rw [hSt]; exact Sha.blocks_ok Sha.start_ok M j
          have HSe : Hid (Sha.out (St Q) = R) := by rw [hSt]; exact unhide HSum
          rw [unhide HS0] at hr5
          have hMl := unhide HPl
          have hzr : w.heap.size + 1 ≤ wr.heap.size := by have := hbl.size; simpa using this
          have hvM := hide ho.bytesAt
          obtain ⟨g3, R3', rfl, hg3, hh3⟩ := ho
          rw [hMl] at hvM ⊢
          have hC3 : 64 * Q ≤ (M ++ R3').length := by simp; omega
          generalize (M ++ R3').length = C3 at *
          have hg3z : g3 < wr.heap.size := (Array.getElem?_eq_some_iff.1 hh3).1
          have HMc : Hid (∀ i, i < 64 * Q → wr.cell? ⟨g3, i, none⟩ = some (.int .u8 ((Sha.nth M i : Nat) : Int))) := fun i hi => by
            rw [cell_of_row wr g3 i _ 5 _ hh3, E8_get _ _ (by simp; omega), Sha.nth_append_left (by omega)]
          have hQb := unhide HQb
          clear hSt hh3 HSum HPl hvM hMl HDl HDs HDe HD0 HG HCt hm hm' hm''
          generalize wr = W4 at *
          go_wp2_with fail
          go_loopw [8] (fun q wr' => ∃ j : Nat, j ≤ Q ∧ q = .int .i64 ((64 * j : Nat) : Int) ∧ Below W4.heap.size W4 wr' ∧ rowOf wr' W4.heap.size = E32 (St j).list ∧ fits wr' W4.heap.size 8 = true ∧ rowOf wr' w5.heap.size = E32 Sha.K ∧ w5.heap.size < wr'.heap.size) (fun q _ => 64 * Q - (intOf q).toNat)
          case atStart => exact ⟨0, by omega, rfl, hb5'.alloc (by omega) _, by rw [rowOf_alloc_past _ _ _ (by omega)]; exact hr5, by rw [fits_alloc_past _ _ _ _ (by omega)]; exact hf5, rowOf_alloc_at _ _ _ _ rfl, by simp⟩
          case round =>
            clear hb5' hr5 hf5
            obtain ⟨j, hj, rfl, hbr, hrow, hfit, hkr, hkz⟩ := hrel
            have hrs : (rowOf wr W4.heap.size).size = 8 := by rw [hrow]; simp
            have hok := hide (unhide HSok j)
            have hSn := hide (unhide HSn j)
            have hMb : Hid (Sha.Bytes ((M.drop (64 * j)).take 64)) := ((unhide HPb).drop _).take _
            by_cases hlt : j < Q
            · have hcells : Hid (∀ (w' : World), Below W4.heap.size W4 w' → ∀ i, i < 64 → w'.cell? ⟨g3, 64 * j + i, none⟩ = some (.int .u8 ((Sha.nth ((M.drop (64 * j)).take 64) i : Nat) : Int))) := fun w' hw' i hi => by
                rw [hw'.cell (p := ⟨g3, 64 * j + i, none⟩) hg3z, unhide HMc _ (by omega), Sha.nth_take hi, Sha.nth_drop]
              have hblk := fun (w' : World) (hw' : Below W4.heap.size W4 w') (h1 : rowOf w' w5.heap.size = E32 Sha.K) (h2 : w5.heap.size < w'.heap.size) => block_any (St j) g3 (64 * j) (C3 - 64 * j) w5.heap.size _ w' (unhide hok) (unhide hMb) (by omega) (Nat.lt_of_lt_of_le hg3z hw'.size) h2 h1 (unhide hcells w' hw')
              rw [← unhide hSn] at hblk
              have HBLK := hide hblk
              have hdz : ¬ (C3 = 64 * j) := by omega
              have hjq : 64 * j < 64 * Q := by omega
              have hjq2 : 64 * j + 64 ≤ 64 * Q := by omega
              have hz4 : W4.heap.size < w5.heap.size := by omega
              have hKR := hide hkr
              have hROW := hide hrow
              clear hblk hok hSn hMb hcells HSn HSok HMc hkr
              have hj1 : (64 * j : Nat) ≤ 5000 := by omega
              generalize hJJ : 64 * j = jj at *
              generalize hQQ : 64 * Q = qq at *
              have hz8 := list_eight (St j)
              have hj64 : jj + 64 ≤ C3 := by omega
              have hs1 : 0 ≤ (jj : Int) + 64 := by omega
              have hs2 : (jj : Int) + 64 ≤ (C3 : Int) := by omega
              have hs3 : ((jj : Int) + 64).toNat = jj + 64 := by omega
              have hs4 : jj + 64 - jj = 64 := by omega
              have hs5 : IntKind.i64.wrap ((jj : Int) + 64) = (jj : Int) + 64 := IntWalk.i64_in _ (by omega)
              clear HPb HSe HRl HCl HQb HS0 hQb hj hlt hX hgl hk hDl hQ hJ hJ0 hmax hbl
              generalize hKK : E32 Sha.K = KK at *
              clear hKK
              have hS8 := list_eight (St (j + 1))
              go_wp2_with fail
              refine wp_region_noPanic ?_
              refine wp_region_held_drew (S := fun _ => True) (by kernel_rfl) trivial (fun hHeld => ?_)
              refine wpAnyH_take (i := 1) (v := .slice (some ⟨g3, 0, none⟩) qq C3) rfl (by kernel_rfl) (by kernel_rfl) (by kernel_rfl) (fun _ _ _ h => h) (Or.inl ⟨by rfl, ?_⟩) hHeld ?_
              · intro w' _; go_simp
              try simp only [Act.put, List.getElem_toArray, List.getElem_cons_zero, List.getElem_cons_succ, List.setIfInBounds_toArray, List.set_cons_zero, List.set_cons_succ]
              refine wpAnyH_take (i := 2) (v := .int .i64 (jj : Int)) rfl (by kernel_rfl) (by kernel_rfl) (by kernel_rfl) (fun _ _ _ h => h) (Or.inl ⟨by rfl, ?_⟩) hHeld ?_
              · intro w' _; go_simp
              try simp only [Act.put, List.getElem_toArray, List.getElem_cons_zero, List.getElem_cons_succ, List.setIfInBounds_toArray, List.set_cons_zero, List.set_cons_succ]
              refine wpAnyH_take (i := 3) (v := .int .i64 (jj : Int)) rfl (by kernel_rfl) (by kernel_rfl) (by kernel_rfl) (fun _ _ _ h => h) (Or.inl ⟨by rfl, ?_⟩) hHeld ?_
              · intro w' _; go_simp
              try simp only [Act.put, List.getElem_toArray, List.getElem_cons_zero, List.getElem_cons_succ, List.setIfInBounds_toArray, List.set_cons_zero, List.set_cons_succ]
              refine wpAnyH_take (i := 4) (v := .int .i64 ((jj : Int) + 64)) rfl (by kernel_rfl) (by kernel_rfl) (by kernel_rfl) (fun _ _ _ h => h) (Or.inl ⟨by rfl, ?_⟩) hHeld ?_
              · intro w' _; go_simp
              try simp only [Act.put, List.getElem_toArray, List.getElem_cons_zero, List.getElem_cons_succ, List.setIfInBounds_toArray, List.set_cons_zero, List.set_cons_succ]
              refine wpAnyH_take (i := 5) (v := .slice (some ⟨g3, jj, none⟩) 64 (C3 - jj)) rfl (by kernel_rfl) (by kernel_rfl) (by kernel_rfl) (fun _ _ _ h => h) (Or.inl ⟨by rfl, ?_⟩) hHeld ?_
              · intro w' _; go_simp
              try simp only [Act.put, List.getElem_toArray, List.getElem_cons_zero, List.getElem_cons_succ, List.setIfInBounds_toArray, List.set_cons_zero, List.set_cons_succ]
              refine wpAnyH_ready (rs := [0]) (by kernel_rfl) (by simp) (AllReadyH.cons rfl (fun K hK => ?_) AllReadyH.nil)
              simp only [List.getElem_toArray, List.getElem_cons_zero, List.getElem_cons_succ]
              go_simp
              refine hK.out _ _ trivial (fun hHeld => ?_)
              clear hK K
              try simp only [Act.put, List.getElem_toArray, List.getElem_cons_zero, List.getElem_cons_succ, List.setIfInBounds_toArray, List.set_cons_zero, List.set_cons_succ]
              refine wpAnyH_ready (rs := [6]) (by kernel_rfl) (by simp) (AllReadyH.cons rfl (fun K hK => ?_) AllReadyH.nil)
              simp only [List.getElem_toArray, List.getElem_cons_zero, List.getElem_cons_succ]
              go_simp
              refine (unhide HBLK _ hbr.drew (by rw [rowOf_drew]; exact unhide hKR) (by simpa using hkz)).mono ?_
              rintro e w6 ⟨rfl, hb6⟩
              have hz6 : wr.heap.size ≤ w6.heap.size := by have := hb6.size; simpa using this
              have hz7 := hbr.size
              have hfit6 : fits w6 W4.heap.size 8 = true := by rw [below_fits hb6 (by simp; omega), fits_drew]; exact hfit
              have hkr6 : Hid (rowOf w6 w5.heap.size = KK) := by show _ = _; rw [below_rowOf hb6 (by simpa using hkz), rowOf_drew]; exact unhide hKR
              have hbr6 : Below W4.heap.size W4 w6 := hbr.drew.trans (hb6.mono (by simp; omega))
              clear hb6
              refine hK.out _ _ trivial (fun hHeld => ?_)
              clear hK K
              try simp only [Act.put, List.getElem_toArray, List.getElem_cons_zero, List.getElem_cons_succ, List.setIfInBounds_toArray, List.set_cons_zero, List.set_cons_succ]
              refine wpAnyH_ready (rs := [7]) (by kernel_rfl) (by simp) (AllReadyH.cons rfl (fun K hK => ?_) AllReadyH.nil)
              simp only [List.getElem_toArray, List.getElem_cons_zero, List.getElem_cons_succ]
              go_simp
              refine hK.out _ _ trivial (fun hHeld => ?_)
              clear hK K
              refine wpAnyH_done (by kernel_rfl) ?_ _
              refine NoPanic.normal ?_
              clear hHeld
              go_wp2
              go_roundw
              case rel => exact ⟨j + 1, by omega, by go_num, below_setRow hbr6 (Nat.le_refl _) _, by rw [rowOf_setRow_at _ _ 8 _ hfit6], fits_setRow_at _ _ _ _ hfit6 (by simp), by rw [rowOf_of (setRow_other _ _ _ _ (by omega))]; exact unhide hkr6, by simp; omega⟩
              case measure => simp [intOf]; omega
            · obtain rfl : j = Q := by omega
              obtain ⟨F, hF⟩ : ∃ F : Nat → List Nat, F = fun k => padTo 32 (Sha.outTo (St j).list k) := ⟨_, rfl⟩
              have HF0 : Hid (Z25 = E8 (F 0)) := by rw [hF]; exact rfl
              have HFl : Hid (∀ k, k ≤ 32 → (F k).length = 32) := fun k hk => by rw [hF]; exact padTo_length _ _ (by rw [Sha.outTo_length]; omega)
              have HFs : Hid (∀ k, k < 32 → (F k).set k (Sha.outAt (St j).list k) = F (k + 1)) := fun k hk => by rw [hF]; exact padTo_set 32 _ _ _ (Sha.outTo_length _ _) hk
              have HFe : Hid (F 32 = R) := by rw [← unhide HSe, hF]; exact padTo_full _ _ (Sha.outTo_length _ _)
              have hz8 := list_eight (St j)
              have HC8 : Hid (∀ i, i < 8 → wr.cell? ⟨W4.heap.size, i, none⟩ = some (.int .u32 ((Sha.nth (St j).list i : Nat) : Int))) := fun i hi => row_cell32 _ _ _ hrow i (by omega)
              have hz7 := hbr.size
              have hfr : fits wr w.heap.size 32 = true := by
                rw [below_fits hbr (by omega), below_fits hbl (by omega)]; simp [go_sem]
              have hbw : Below w.heap.size w wr := hbA.trans ((hbl.mono (by omega)).trans (hbr.mono (by omega)))
              have hwz : W4.heap.size < wr.heap.size := by omega
              have hwz2 : w.heap.size < wr.heap.size := by omega
              have hRl := hide (unhide HRl)
              generalize wr = W7 at *
              clear hF HPb HSe HRl HCl HQb HS0 hX hgl hk hDl hQ hJ hJ0 hmax hbl hj hlt hok hSn hMb HSn HSok HMc hkr hrs hrow hfit hbr
              generalize 64 * j = jj at *
              generalize hKK : E32 Sha.K = KK at *
              clear hKK
              go_wp2_with fail
              go_loopw [10] (fun c wr => ∃ k n : Nat, k ≤ 32 ∧ c = .int .i64 (k : Int) ∧ wr = (W7.alloc (.cells (E8 (F k)) 25)).drewN n) (fun c _ => 32 - (intOf c).toNat)
              case atStart => exact ⟨0, 0, by omega, rfl, by rw [← unhide HF0]; rfl⟩
              case round =>
                obtain ⟨k, n, hk, rfl, rfl⟩ := hrel
                have hpl := unhide HFl k hk
                by_cases hlt : k < 32
                · have hq : k / 4 < 8 := by omega
                  have hck := unhide HC8 (k / 4) hq
                  go_wp2
                  go_roundw
                  case rel => exact ⟨k + 1, n, by omega, by go_num, by rw [← unhide HFs k hlt, outAt_cast, E8_set]⟩
                  case measure => simp [intOf]; omega
                · obtain rfl : k = 32 := by omega
                  rw [unhide HFe] at hpl ⊢
                  go_wp2
                  refine bodyPost_ret (v := .agg (E8 R)) (res25 Try.results11 rfl ?_ (by simp [hpl])) rfl ⟨rfl, ?_⟩
                  · rw [rowOf_drewN, rowOf_alloc_past _ _ _ (by simp; omega), rowOf_setRow_at _ _ 32 _ hfr]
                  · exact below_drews ((below_setRow hbw (Nat.le_refl _) _).alloc (by simp; omega) _) _
    · have hm : ¬ (b.length + 1 + k) % 64 = 56 := fun h => hlt ((unhide HG k hk).1 h)
      have hm'' : (((b.length + 1 + k : Nat) : Int) % 64 != 56) = true := by rw [bne_iff_ne]; omega
      rw [hDl]
      generalize hX : b.length + 1 + k = X at *
      have ho' : OwnB wr (w.heap.size + 1) (.slice (some ⟨g, 0, none⟩) X (D k ++ Rs).length) (D k) := by rw [← hDl]; exact unhide HO
      generalize (D k ++ Rs).length = Cp at *
      go_wp2_with fail
      obtain ⟨v', w', hr, ho2, hbl', hz'⟩ := app_own (wr.alloc (.cells #[.int .u8 0] 5)) (w.heap.size + 1) _ (D k) (some ⟨wr.heap.size, 0, none⟩) [0] 1 (ho'.alloc _) (one_at wr 0) (by simp) (by simp; omega)
      simp only [List.length_singleton] at hr
      rw [hr]
      clear hr
      have hbl2 : Below (w.heap.size + 1) (w.alloc (.cells Z25 25)) w' := (hbl.alloc hzr _).trans hbl'
      rw [unhide HDs] at ho2
      have hl2 := ho2.len
      rw [unhide HDl] at hl2
      go_wp2
      go_roundw
      case rel => exact ⟨k + 1, by omega, ho2, hbl2⟩
      case measure => rw [hl2]; show _ < b.length + 100 - X; omega
end Go.Proofs.Ytdkhmjiconedkaa
