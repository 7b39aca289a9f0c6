/- Names: IsName, in the code and in the document's own answer. -/
import Derived.Test.YtlbfcneboaihnaaRefp
namespace Go.Proofs.Ytlbfcneboaihnaa
namespace Sha
/-- A byte that may stand in a name. -/
def nameB (c : Nat) : Bool := decide ((48 ≤ c ∧ c ≤ 57) ∨ (65 ≤ c ∧ c ≤ 90) ∨ (97 ≤ c ∧ c ≤ 122) ∨ c = 43 ∨ c = 45 ∨ c = 46 ∨ c = 95 ∨ c = 63 ∨ c = 61)
/-- A name. -/
def isNm (b : List Nat) : Bool := decide (1 ≤ b.length) && decide (b.length ≤ 80) && decide (nth b 0 ≠ 46) && b.all nameB
theorem all_nth {b : List Nat} {p : Nat → Bool} (h : ∀ i, i < b.length → p (nth b i) = true) : b.all p = true := by
  rw [List.all_eq_true]
  intro x hx
  obtain ⟨i, hi, rfl⟩ := List.getElem_of_mem hx
  have := h i hi
  unfold nth at this
  rw [List.getElem?_eq_getElem hi] at this
  exact this
theorem not_all_nth {b : List Nat} {p : Nat → Bool} (i : Nat) (hi : i < b.length) (h : p (nth b i) = false) : b.all p = false := by
  rw [List.all_eq_false]
  refine ⟨b[i], List.getElem_mem hi, ?_⟩
  unfold nth at h
  rw [List.getElem?_eq_getElem hi] at h
  simpa using h
end Sha
open Go.RowKit Go.Great
attribute [local go_sem] index_strIx
theorem ret_bool {a b : Bool} (h : a = b) : Ending.returned (.bool a) = .returned (.bool b) := by rw [h]
set_option maxRecDepth 20000 in
set_option maxHeartbeats 1000000 in
theorem nameByte_any (c : Nat) (w : World) (hc : c < 256) :
    Calls Try.prog 98 #[.int .u8 (c : Int)] w fun e w' => e = .returned (.bool (Sha.nameB c)) ∧ w' = w := by
  go_enter Try.func98, Try.ntmps98
  go_wp2
  all_goals go_ret
  all_goals
    refine ⟨ret_bool ?_, rfl⟩
    unfold Sha.nameB
    try simp only [beq_iff_eq, beq_eq_false_iff_ne, ne_eq] at *
    first
      | (symm; rw [decide_eq_true_iff]; omega)
      | (symm; rw [decide_eq_false_iff_not]; omega)
theorem isNm_short {b : List Nat} (h : b.length < 1) : Sha.isNm b = false := by
  unfold Sha.isNm; rw [decide_eq_false (by omega)]; rfl
theorem isNm_long {b : List Nat} (h : 80 < b.length) : Sha.isNm b = false := by
  unfold Sha.isNm; rw [decide_eq_false (show ¬ b.length ≤ 80 by omega)]; simp
theorem isNm_dot {b : List Nat} (h : Sha.nth b 0 = 46) : Sha.isNm b = false := by
  unfold Sha.isNm; rw [decide_eq_false (show ¬ Sha.nth b 0 ≠ 46 by omega)]; simp
theorem isNm_at {b : List Nat} (i : Nat) (hi : i < b.length) (h : Sha.nameB (Sha.nth b i) = false) : Sha.isNm b = false := by
  unfold Sha.isNm; rw [Sha.not_all_nth i hi h]; simp
theorem isNm_yes {b : List Nat} (h1 : 1 ≤ b.length) (h2 : b.length ≤ 80) (h3 : Sha.nth b 0 ≠ 46) (h : ∀ i, i < b.length → Sha.nameB (Sha.nth b i) = true) : Sha.isNm b = true := by
  unfold Sha.isNm; rw [Sha.all_nth h, decide_eq_true h1, decide_eq_true h2, decide_eq_true h3]; rfl
set_option maxRecDepth 20000 in
set_option maxHeartbeats 1000000 in
theorem isName_any (s : ByteArray) (w : World) (hm : s.size ≤ 9223372036854775807) :
    Calls Try.prog 69 #[.string s] w fun e w' => e = .returned (.bool (Sha.isNm (bytesOf s))) ∧ w' = w := by
  obtain ⟨L, hL⟩ : ∃ L, L = s.size := ⟨_, rfl⟩
  have hsz : s.size = L := hL.symm
  obtain ⟨S, hS⟩ : ∃ S, S = bytesOf s := ⟨_, rfl⟩
  have hSl : S.length = L := by rw [hS, hL, bytesOf_length]
  have HX : Hid (∀ i, Sha.nth S i < 256) := fun i => by rw [hS]; exact (bytesOf_bytes s).at i
  have HIx : Hid (∀ i, i < L → ∀ w, (strIx s (.int .i64 (i : Int))).run Try.prog w = .ok (.int .u8 ((Sha.nth S i : Nat) : Int)) w) := fun i hi w => by rw [hS]; exact run_strIx w s i (by omega)
  rw [← hS]
  have HSl := hide hSl
  clear hL hS hSl
  by_cases h0 : L < 1
  · go_enter Try.func69, Try.ntmps69
    go_wp2
    go_ret
    exact ⟨ret_bool (isNm_short (by rw [unhide HSl]; exact h0)).symm, rfl⟩
  · by_cases h80 : 80 < L
    · go_enter Try.func69, Try.ntmps69
      go_wp2
      go_ret
      exact ⟨ret_bool (isNm_long (by rw [unhide HSl]; exact h80)).symm, rfl⟩
    · have hix0 : ∀ w, (strIx s (.int .i64 0)).run Try.prog w = .ok (.int .u8 ((Sha.nth S 0 : Nat) : Int)) w := unhide HIx 0 (by omega)
      have hx0 := unhide HX 0
      by_cases hd : Sha.nth S 0 = 46
      · have hde : (((Sha.nth S 0 : Nat) : Int) == 46) = true := by rw [hd]; rfl
        go_enter Try.func69, Try.ntmps69
        go_wp2
        go_ret
        exact ⟨ret_bool (isNm_dot hd).symm, rfl⟩
      · have hde : (((Sha.nth S 0 : Nat) : Int) == 46) = false := by rw [beq_eq_false_iff_ne]; omega
        have HD := hide hd
        clear hd
        go_enter Try.func69, Try.ntmps69
        go_wp2
        go_loopw [19] (fun vi wr => ∃ i : Nat, i ≤ L ∧ vi = .int .i64 (i : Int) ∧ wr = w ∧ Hid (∀ j, j < i → Sha.nameB (Sha.nth S j) = true)) (fun vi _ => L - (intOf vi).toNat)
        case atStart => exact ⟨0, by omega, rfl, rfl, fun j hj => by omega⟩
        case round =>
          obtain ⟨i, hi, rfl, rfl, hall⟩ := hrel
          by_cases hlt : i < L
          · have hix := unhide HIx i hlt
            have hx := unhide HX i
            generalize hX : Sha.nth S i = x at *
            have HXI := hide hX
            clear hX
            cases hN : Sha.nameB x with
            | false =>
              go_wp2_with (go_at_call 98; refine (nameByte_any x _ hx).mono ?_; rintro e w' ⟨rfl, hw'⟩; rw [hw', hN]; clear hw' w')
              go_ret
              exact ⟨ret_bool (isNm_at i (by rw [unhide HSl]; exact hlt) (by rw [unhide HXI]; exact hN)).symm, rfl⟩
            | true =>
              go_wp2_with (go_at_call 98; refine (nameByte_any x _ hx).mono ?_; rintro e w' ⟨rfl, hw'⟩; rw [hw', hN]; clear hw' w')
              go_roundw
              case rel => exact ⟨i + 1, by omega, by go_num, by first | rfl | trivial, fun j hj => by
                by_cases hji : j = i
                · rw [hji, unhide HXI]; exact hN
                · exact unhide hall j (by omega)⟩
              case measure => simp [intOf]; try omega
          · obtain rfl : i = L := by omega
            go_wp2
            go_ret
            exact ⟨ret_bool (isNm_yes (by rw [unhide HSl]; omega) (by rw [unhide HSl]; omega) (unhide HD) (by rw [unhide HSl]; exact unhide hall)).symm, rfl⟩

set_option maxRecDepth 20000 in
set_option maxHeartbeats 1000000 in
theorem isNameRef_any (s : ByteArray) (w : World) (hm : s.size ≤ 9223372036854775807) :
    Calls Try.prog 46 #[.string s] w fun e w' => e = .returned (.bool (Sha.isNm (bytesOf s))) ∧ w' = w := by
  obtain ⟨L, hL⟩ : ∃ L, L = s.size := ⟨_, rfl⟩
  have hsz : s.size = L := hL.symm
  obtain ⟨S, hS⟩ : ∃ S, S = bytesOf s := ⟨_, rfl⟩
  have hSl : S.length = L := by rw [hS, hL, bytesOf_length]
  have HX : Hid (∀ i, Sha.nth S i < 256) := fun i => by rw [hS]; exact (bytesOf_bytes s).at i
  have HIx : Hid (∀ i, i < L → ∀ w, (strIx s (.int .i64 (i : Int))).run Try.prog w = .ok (.int .u8 ((Sha.nth S i : Nat) : Int)) w) := fun i hi w => by rw [hS]; exact run_strIx w s i (by omega)
  rw [← hS]
  have HSl := hide hSl
  clear hL hS hSl
  by_cases h0 : L < 1
  · go_enter Try.func46, Try.ntmps46
    go_wp2
    go_ret
    exact ⟨ret_bool (isNm_short (by rw [unhide HSl]; exact h0)).symm, rfl⟩
  · by_cases h80 : 80 < L
    · go_enter Try.func46, Try.ntmps46
      go_wp2
      go_ret
      exact ⟨ret_bool (isNm_long (by rw [unhide HSl]; exact h80)).symm, rfl⟩
    · have hix0 : ∀ w, (strIx s (.int .i64 0)).run Try.prog w = .ok (.int .u8 ((Sha.nth S 0 : Nat) : Int)) w := unhide HIx 0 (by omega)
      have hx0 := unhide HX 0
      by_cases hd : Sha.nth S 0 = 46
      · have hde : (((Sha.nth S 0 : Nat) : Int) == 46) = true := by rw [hd]; rfl
        go_enter Try.func46, Try.ntmps46
        go_wp2
        go_ret
        exact ⟨ret_bool (isNm_dot hd).symm, rfl⟩
      · have hde : (((Sha.nth S 0 : Nat) : Int) == 46) = false := by rw [beq_eq_false_iff_ne]; omega
        have HD := hide hd
        clear hd
        go_enter Try.func46, Try.ntmps46
        go_wp2
        go_loopw [3] (fun vi wr => ∃ i : Nat, i ≤ L ∧ vi = .int .i64 (i : Int) ∧ wr = w ∧ Hid (∀ j, j < i → Sha.nameB (Sha.nth S j) = true)) (fun vi _ => L - (intOf vi).toNat)
        case atStart => exact ⟨0, by omega, rfl, rfl, fun j hj => by omega⟩
        case round =>
          obtain ⟨i, hi, rfl, rfl, hall⟩ := hrel
          by_cases hlt : i < L
          · have hix := unhide HIx i hlt
            have hx := unhide HX i
            generalize hX : Sha.nth S i = x at *
            have HXI := hide hX
            clear hX
            have HF : Hid (Sha.nameB x = false → Sha.isNm S = false) := fun hN => isNm_at i (by rw [unhide HSl]; exact hlt) (by rw [unhide HXI]; exact hN)
            have HT : Hid (Sha.nameB x = true → ∀ j, j < i + 1 → Sha.nameB (Sha.nth S j) = true) := fun hN j hj => by
              by_cases hji : j = i
              · rw [hji, unhide HXI]; exact hN
              · exact unhide hall j (by omega)
            clear hall
            go_wp2
            all_goals try go_ret
            all_goals
              first
                | (refine ⟨ret_bool (unhide HF ?_).symm, rfl⟩
                   clear HF HT HX HIx HSl HD HXI hix hix0 hde
                   unfold Sha.nameB
                   simp only [bne_iff_ne, ne_eq, Bool.not_eq_true', decide_eq_false_iff_not] at *
                   omega)
                | (refine ⟨⟨i + 1, by omega, by go_num, by first | rfl | trivial, unhide HT ?_⟩, by simp [intOf]; omega⟩
                   clear HF HT HX HIx HSl HD HXI hix hix0 hde
                   unfold Sha.nameB
                   simp only [bne_eq_false_iff_eq, Bool.not_eq_false', decide_eq_true_eq] at *
                   omega)
          · obtain rfl : i = L := by omega
            go_wp2
            go_ret
            exact ⟨ret_bool (isNm_yes (by rw [unhide HSl]; omega) (by rw [unhide HSl]; omega) (unhide HD) (by rw [unhide HSl]; exact unhide hall)).symm, rfl⟩
end Go.Proofs.Ytlbfcneboaihnaa
