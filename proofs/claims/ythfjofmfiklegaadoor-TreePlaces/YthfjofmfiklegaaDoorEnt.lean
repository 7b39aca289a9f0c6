/- Which texts are entries' names. -/
import Derived.Test.YthfjofmfiklegaaDoorSp
import Derived.Test.YthfjofmfiklegaaDoorLib
namespace Go.Proofs.YthfjofmfiklegaaDoor
open Go.RowKit
theorem ret_bool {a b : Bool} (h : a = b) : Ending.returned (.bool a) = .returned (.bool b) := by rw [h]
theorem entB_len {s : ByteArray} (h : ¬ (1 ≤ s.size ∧ s.size ≤ 100)) : entB s = false := by
  unfold entB; exact decide_eq_false fun h' => h ⟨h'.1, h'.2.1⟩
theorem entB_dot {s : ByteArray} (h : (s.toList == [46]) = true) : entB s = false := by
  unfold entB; exact decide_eq_false fun h' => h'.2.2.1 (by simpa using h)
theorem entB_dots {s : ByteArray} (h : (s.toList == [46, 46]) = true) : entB s = false := by
  unfold entB; exact decide_eq_false fun h' => h'.2.2.2.1 (by simpa using h)
theorem entB_bad {s : ByteArray} {b : UInt8} (h : b ∈ s.data.toList) (hb : b = 47 ∨ b = 0) : entB s = false := by
  unfold entB; refine decide_eq_false fun h' => ?_
  have := h'.2.2.2.2 b h
  rcases hb with rfl | rfl
  · exact this.1 rfl
  · exact this.2 rfl
theorem entB_yes {s : ByteArray} (h1 : 1 ≤ s.size) (h2 : s.size ≤ 100) (h3 : (s.toList == [46]) = false) (h4 : (s.toList == [46, 46]) = false) (h : ∀ b ∈ s.data.toList, b ≠ 47 ∧ b ≠ 0) : entB s = true := by
  unfold entB; exact decide_eq_true ⟨h1, h2, by simpa using h3, by simpa using h4, h⟩
theorem byte_mem (s : ByteArray) (i : Nat) (h : i < s.size) : s[i] ∈ s.data.toList := by
  show s.data[i] ∈ s.data.toList
  exact Array.getElem_mem_toList h
theorem mem_byte {s : ByteArray} {b : UInt8} (h : b ∈ s.data.toList) : ∃ i, ∃ hi : i < s.size, b = s[i] := by
  obtain ⟨i, hi, rfl⟩ := List.getElem_of_mem h
  exact ⟨i, by simpa using hi, by simp; rfl⟩
set_option maxRecDepth 20000 in
set_option maxHeartbeats 1000000 in
theorem entR_any (s : ByteArray) (w : World) (hs : s.size ≤ 9223372036854775807) :
    Calls Tryd.prog 43 #[.string s] w fun e w' => e = .returned (.bool (entB s)) ∧ w' = w := by
  by_cases h1 : s.size < 1
  · go_enter Tryd.func43, Tryd.ntmps43
    go_wp2
    go_ret
    exact ⟨ret_bool (entB_len (by omega)).symm, rfl⟩
  by_cases h2 : 100 < s.size
  · go_enter Tryd.func43, Tryd.ntmps43
    go_wp2
    go_ret
    exact ⟨ret_bool (entB_len (by omega)).symm, rfl⟩
  cases h3 : (s.toList == [46])
  case true =>
    have H := hide (entB_dot h3)
    go_enter Tryd.func43, Tryd.ntmps43
    go_wp2
    go_ret
    exact ⟨ret_bool (unhide H).symm, rfl⟩
  cases h4 : (s.toList == [46, 46])
  case true =>
    have H := hide (entB_dots h4)
    go_enter Tryd.func43, Tryd.ntmps43
    go_wp2
    go_ret
    exact ⟨ret_bool (unhide H).symm, rfl⟩
  go_enter Tryd.func43, Tryd.ntmps43
  go_wp2
  go_loop [3] (fun vi => ∃ i : Nat, i ≤ s.size ∧ vi = .int .i64 (i : Int) ∧ Hid (∀ j (h : j < s.size), j < i → s[j] ≠ 47 ∧ s[j] ≠ 0)) (fun vi => s.size - (intOf vi).toNat)
  case atStart => exact ⟨0, by omega, rfl, fun j _ h => by omega⟩
  case round =>
    obtain ⟨i, hi, rfl, hall⟩ := hrel
    by_cases hlt : i < s.size
    · have HM := hide (byte_mem s i hlt)
      by_cases hb1 : s[i] = 47
      · have hb1' : ((s[i].toNat : Int) == 47) = true := by rw [hb1]; rfl
        have H := hide (entB_bad (unhide HM) (.inl hb1))
        clear hb1
        go_wp2
        go_ret
        exact ⟨ret_bool (unhide H).symm, rfl⟩
      · have hb1' : ((s[i].toNat : Int) == 47) = false := by rw [beq_eq_false_iff_ne]; intro h; exact hb1 (UInt8.toNat_inj.1 (by rw [show (47 : UInt8).toNat = 47 from rfl]; omega))
        by_cases hb2 : s[i] = 0
        · have hb2' : ((s[i].toNat : Int) == 0) = true := by rw [hb2]; rfl
          have H := hide (entB_bad (unhide HM) (.inr hb2))
          clear hb1 hb2
          go_wp2
          go_ret
          exact ⟨ret_bool (unhide H).symm, rfl⟩
        · have hb2' : ((s[i].toNat : Int) == 0) = false := by rw [beq_eq_false_iff_ne]; intro h; exact hb2 (UInt8.toNat_inj.1 (by rw [show (0 : UInt8).toNat = 0 from rfl]; omega))
          have HN : Hid (∀ j (h : j < s.size), j < i + 1 → s[j] ≠ 47 ∧ s[j] ≠ 0) := fun j h hj => by
            by_cases e : j = i
            · subst e; exact ⟨hb1, hb2⟩
            · exact unhide hall j h (by omega)
          clear hb1 hb2 hall HM
          go_wp2
          go_round
          case rel => exact ⟨i + 1, by omega, by go_num, HN⟩
          case measure => simp [intOf]; omega
    · have H : Hid (entB s = true) := entB_yes (by omega) (by omega) h3 h4 (fun b hb => by
        obtain ⟨j, hj, rfl⟩ := mem_byte hb
        exact unhide hall j hj (by omega))
      go_wp2
      go_ret
      exact ⟨ret_bool (unhide H).symm, rfl⟩
theorem ib_neg (l : List UInt8) (c : UInt8) : Lib.indexByte l c < 0 ↔ c ∉ l := by
  constructor
  · intro h hm
    have h1 : Lib.indexByte l c = -1 := by have := Lib.indexByte_ge l c; omega
    obtain ⟨i, hi, e⟩ := List.getElem_of_mem hm
    exact Lib.indexByte_none h1 i (by rw [List.getElem?_eq_getElem hi, e])
  · intro h
    by_cases h0 : 0 ≤ Lib.indexByte l c
    · obtain ⟨o, ho⟩ : ∃ o : Nat, Lib.indexByte l c = o := ⟨(Lib.indexByte l c).toNat, by omega⟩
      exact absurd (List.mem_of_getElem? (Lib.indexByte_some ho).1) h
    · omega
set_option maxRecDepth 20000 in
set_option maxHeartbeats 1000000 in
theorem ent_any (s : ByteArray) (w : World) (hs : s.size ≤ 9223372036854775807) :
    Calls Tryd.prog 52 #[.string s] w fun e w' => e = .returned (.bool (entB s)) ∧ w' = w := by
  by_cases h1 : s.size < 1
  · go_enter Tryd.func52, Tryd.ntmps52
    go_wp2_with fail
    go_ret
    exact ⟨ret_bool (entB_len (by omega)).symm, rfl⟩
  by_cases h2 : 100 < s.size
  · go_enter Tryd.func52, Tryd.ntmps52
    go_wp2_with fail
    go_ret
    exact ⟨ret_bool (entB_len (by omega)).symm, rfl⟩
  cases h3 : (s.toList == [46])
  case true =>
    have H := hide (entB_dot h3)
    go_enter Tryd.func52, Tryd.ntmps52
    go_wp2_with fail
    go_ret
    exact ⟨ret_bool (unhide H).symm, rfl⟩
  cases h4 : (s.toList == [46, 46])
  case true =>
    have H := hide (entB_dots h4)
    go_enter Tryd.func52, Tryd.ntmps52
    go_wp2_with fail
    go_ret
    exact ⟨ret_bool (unhide H).symm, rfl⟩
  have i47 := ib_neg s.data.toList 47
  have i0 := ib_neg s.data.toList 0
  have HI := hide (fun (c : Int) w => Tryd.strings_IndexByte s c w)
  have e47 : (47 : Int).toNat.toUInt8 = 47 := rfl
  have e0 : (0 : Int).toNat.toUInt8 = 0 := rfl
  by_cases m47 : (47 : UInt8) ∈ s.data.toList
  · have H := hide (entB_bad m47 (.inl rfl))
    have hx : ¬ Lib.indexByte s.data.toList 47 < 0 := fun h => i47.1 h m47
    clear i47 i0 m47 e0
    generalize hX : Lib.indexByte s.data.toList 47 = X at *
    have HX := hide hX
    clear hX
    go_enter Tryd.func52, Tryd.ntmps52
    go_wp2_with fail
    refine (unhide HI _ _).mono ?_
    rintro e w' ⟨rfl, hw⟩
    rw [hw, e47, unhide HX]
    go_wp2_with fail
    go_ret
    exact ⟨ret_bool (unhide H).symm, rfl⟩
  · have hx : Lib.indexByte s.data.toList 47 < 0 := i47.2 m47
    have H47 := hide m47
    clear i47 m47
    generalize hX : Lib.indexByte s.data.toList 47 = X at *
    have HX := hide hX
    clear hX
    have HE : Hid (entB s = decide (Lib.indexByte s.data.toList 0 < 0)) := by
      by_cases m0 : (0 : UInt8) ∈ s.data.toList
      · exact (entB_bad m0 (.inr rfl)).trans (decide_eq_false fun h => i0.1 h m0).symm
      · exact (entB_yes (by omega) (by omega) h3 h4 (fun b hb => ⟨fun e => unhide H47 (e ▸ hb), fun e => m0 (e ▸ hb)⟩)).trans (decide_eq_true (i0.2 m0)).symm
    clear i0
    generalize hY : Lib.indexByte s.data.toList 0 = Y at *
    have HY := hide hY
    clear hY
    go_enter Tryd.func52, Tryd.ntmps52
    go_wp2_with fail
    refine (unhide HI _ _).mono ?_
    rintro e w' ⟨rfl, hw⟩
    rw [hw, e47, unhide HX]
    clear hw w'
    go_wp2_with fail
    refine (unhide HI _ _).mono ?_
    rintro e w' ⟨rfl, hw⟩
    rw [hw, e0, unhide HY]
    clear hw w'
    go_wp2_with fail
    all_goals go_ret
    all_goals exact ⟨ret_bool (unhide HE).symm, rfl⟩
end Go.Proofs.YthfjofmfiklegaaDoor
