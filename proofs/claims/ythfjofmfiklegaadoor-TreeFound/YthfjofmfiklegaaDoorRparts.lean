/- The document's Parts, in the code. -/
import Derived.Test.YthfjofmfiklegaaDoorK4
import Derived.Test.YthfjofmfiklegaaDoorK2
import Derived.Test.YthfjofmfiklegaaDoorK1
namespace Go.Proofs.YthfjofmfiklegaaDoor
open Go.RowKit
theorem splitL_slash (a b : List UInt8) : splitL (a ++ 47 :: b) = splitL a ++ splitL b := by
  induction a with
  | nil => simp [splitL]
  | cons c r ih =>
    rw [List.cons_append, splitL, splitL]
    split
    · rw [ih]; rfl
    · rw [ih]
      cases hq : splitL r with
      | nil => exact absurd hq (splitL_ne r)
      | cons p q => rfl
theorem splitL_snoc {a : List UInt8} : ∀ {L : List (List UInt8)} {p : List UInt8} {c : UInt8}, c ≠ 47 → splitL a = L ++ [p] → splitL (a ++ [c]) = L ++ [p ++ [c]] := by
  induction a with
  | nil =>
    intro L p c hc h
    rw [splitL] at h
    cases L with
    | nil => simp at h; subst h; simp [splitL, hc]
    | cons x y => simp at h
  | cons d r ih =>
    intro L p c hc h
    rw [List.cons_append, splitL]
    rw [splitL] at h
    split at h
    · rename_i hd
      rw [if_pos hd]
      cases L with
      | nil => simp at h; exact absurd h.2 (splitL_ne r)
      | cons x y =>
        simp at h
        rw [ih hc h.2, h.1]; rfl
    · rename_i hd
      rw [if_neg hd]
      cases hq : splitL r with
      | nil => exact absurd hq (splitL_ne r)
      | cons u v =>
        rw [hq] at h
        cases L with
        | nil =>
          simp at h
          obtain ⟨rfl, rfl⟩ := h
          have := ih (L := []) (p := u) hc (by rw [hq]; rfl)
          rw [this]; rfl
        | cons x y =>
          simp at h
          obtain ⟨rfl, rfl⟩ := h
          have := ih (L := u :: y) (p := p) hc (by rw [hq]; rfl)
          rw [this]; rfl
theorem byte_at (s : ByteArray) (i : Nat) (_ : i < s.size) (h' : i < s.data.toList.length) : s.data.toList[i] = s[i] := by simp; rfl
/-- How far the parts are read. -/
def Read (s : ByteArray) (i : Nat) (l : List ByteArray) (cur : ByteArray) : Prop := splitL (s.data.toList.take i) = (l.map fun x => x.data.toList) ++ [cur.data.toList] ∧ ∀ x ∈ l, entB x = true
theorem read_zero (s : ByteArray) : Read s 0 [] ⟨#[]⟩ := ⟨by rw [List.take_zero]; rfl, fun x hx => by simp at hx⟩
theorem read_byte {s : ByteArray} {i : Nat} {l : List ByteArray} {cur : ByteArray} (h : Read s i l cur) (hi : i < s.size) (hb : s[i] ≠ 47) : Read s (i + 1) l (cur ++ s.extract i (i + 1)) := by
  refine ⟨?_, h.2⟩
  have hl : i < s.data.toList.length := by simpa using hi
  rw [List.take_succ_eq_append_getElem hl, splitL_snoc (by rw [byte_at s i hi hl]; exact hb) h.1]
  congr 2
  rw [show (cur ++ s.extract i (i + 1)).data = cur.data ++ s.data.extract i (i + 1) by rw [ByteArray.data_append, ByteArray.data_extract]]
  rw [Array.toList_append]
  congr 1
  rw [Array.toList_extract, List.extract_eq_take_drop, Nat.add_sub_cancel_left, List.drop_eq_getElem_cons hl]
  rfl
theorem read_slash {s : ByteArray} {i : Nat} {l : List ByteArray} {cur : ByteArray} (h : Read s i l cur) (hi : i < s.size) (hb : s[i] = 47) (he : entB cur = true) : Read s (i + 1) (l ++ [cur]) ⟨#[]⟩ := by
  have hl : i < s.data.toList.length := by simpa using hi
  refine ⟨?_, fun x hx => by rcases List.mem_append.1 hx with h1 | h1; exact h.2 x h1; simp at h1; subst h1; exact he⟩
  have hb' : s.data.toList[i] = 47 := by rw [byte_at s i hi hl]; exact hb
  rw [List.take_succ_eq_append_getElem hl, hb', splitL_slash, h.1]
  simp [splitL]
theorem read_part {s : ByteArray} {i : Nat} {l : List ByteArray} {cur : ByteArray} (h : Read s i l cur) (hi : i = s.size ∨ ∃ h : i < s.size, s[i] = 47) : cur ∈ partsB s := by
  unfold partsB
  have hm : cur.data.toList ∈ splitL s.data.toList := by
    rcases hi with rfl | ⟨hi, hb⟩
    · have h1 := h.1
      rw [List.take_of_length_le (by simp)] at h1
      rw [h1]
      simp
    · have hl : i < s.data.toList.length := by simpa using hi
      have hb' : s.data.toList[i] = 47 := by rw [byte_at s i hi hl]; exact hb
      rw [← List.take_append_drop i s.data.toList, List.drop_eq_getElem_cons hl, hb', splitL_slash, h.1]
      simp
  exact List.mem_map.2 ⟨_, hm, by simp⟩
theorem read_end {s : ByteArray} {l : List ByteArray} {cur : ByteArray} (h : Read s s.size l cur) : partsB s = l ++ [cur] := by
  unfold partsB
  have h1 := h.1
  rw [List.take_of_length_le (by simp)] at h1
  rw [h1, List.map_append, List.map_map]
  congr 1
  exact List.map_id'' (fun x => rfl) l
/-- Where the reader stands. -/
def Reads (s : ByteArray) (i : Nat) (l : List ByteArray) (cur : ByteArray) : Prop := (i ≤ s.size → Read s i l cur) ∧ (i = s.size + 1 → partsB s = l ∧ ∀ x ∈ l, entB x = true) ∧ l.length ≤ i ∧ cur.size ≤ i
theorem isPl_parts_no {s x : ByteArray} (h0 : s.size ≠ 0) (hx : x ∈ partsB s) (he : entB x = false) : isPl s = false := by
  unfold isPl placeL
  rw [if_neg h0]
  cases hp : (partsB s).all entB with
  | false => rfl
  | true => have := List.all_eq_true.1 hp x hx; rw [he] at this; cases this
set_option maxRecDepth 20000 in
set_option maxHeartbeats 2000000 in
theorem partsR_any (s : ByteArray) (w : World) (hs : s.size ≤ 1000000) : Calls Tryd.prog 27 #[.string s] w fun e w' => Below w.heap.size w w' ∧ ((isPl s = true ∧ ∃ a c, e = .returned (.tuple #[.slice a (placeL s).length c, .bool true]) ∧ Row w.heap.size w'.heap.size w' (.slice a (placeL s).length c) (placeL s).length ((placeL s).map .string)) ∨ (isPl s = false ∧ e = .returned (.tuple #[.slice none 0 0, .bool false]))) := by
  by_cases h0 : s.size = 0
  · obtain rfl := size_zero h0
    go_enter Tryd.func27, Tryd.ntmps27
    go_wp2_with fail
    go_ret2
    exact ⟨Below.refl _ _, .inl ⟨rfl, none, 0, rfl, none, 0, rfl, Nat.le_refl _, fun h => absurd h (Nat.lt_irrefl 0)⟩⟩
  have e0 : (s.toList == []) = false := by rw [beq_eq_false_iff_ne, ByteArray.toList_eq]; intro h; apply h0; show s.data.toList.length = 0; rw [h]; rfl
  have HP : Hid (placeL s = partsB s) := by show _ = _; unfold placeL; rw [if_neg h0]
  have H0 := hide h0
  have HE := hide (fun x (w : World) (h : x.size ≤ 9223372036854775807) => entR_any x w h)
  clear h0
  go_enter Tryd.func27, Tryd.ntmps27
  go_wp2_with fail
  go_loopw [4, 5, 6] (fun vl vs vi wr => ∃ (i : Nat) (l : List ByteArray) (a : Option Addr) (c : Nat) (cur : ByteArray), i ≤ s.size + 1 ∧ vi = .int .i64 (i : Int) ∧ vl = .slice a l.length c ∧ vs = .string cur ∧ wr.ownsRow w.heap.size 9 1 (.slice a l.length c) l.length (l.map .string) ∧ Below w.heap.size w wr ∧ Hid (Reads s i l cur)) (fun _ _ vi _ => s.size + 1 - (intOf vi).toNat)
  case atStart => exact ⟨0, [], none, 0, ⟨#[]⟩, by omega, rfl, rfl, rfl, ⟨rfl, .inl ⟨rfl, rfl⟩⟩, Below.refl _ _, fun _ => read_zero s, fun h => by omega, Nat.zero_le _, Nat.zero_le _⟩
  case round =>
    obtain ⟨i, l, a, c, cur, hi, rfl, rfl, rfl, ho, hb, hR⟩ := hrel
    obtain ⟨hl1, hl2⟩ := (unhide hR).2.2
    have HO := hide (And.intro ho hb)
    by_cases hend : i = s.size + 1
    · have HEnd := hide ((unhide hR).2.1 hend)
      clear ho hb
      go_wp2_with fail
      go_ret2
      refine ⟨(unhide HO).2, .inl ?_⟩
      rw [unhide HP, (unhide HEnd).1]
      refine ⟨?_, a, c, rfl, owns_row (unhide HO).1 (fun g hg => owns_lt (unhide HO).1 g hg)⟩
      unfold isPl
      rw [unhide HP, (unhide HEnd).1]
      exact List.all_eq_true.2 (unhide HEnd).2
    have hle : i ≤ s.size := by omega
    have hRd := (unhide hR).1 hle
    by_cases hbyte : ∃ h : i < s.size, s[i] ≠ 47
    · obtain ⟨hlt, hne⟩ := hbyte
      have hb1' : ((s[i].toNat : Int) == 47) = false := by rw [beq_eq_false_iff_ne]; intro h; exact hne (UInt8.toNat_inj.1 (by rw [show (47 : UInt8).toNat = 47 from rfl]; omega))
      have HRn := hide (read_byte hRd hlt hne)
      have hxs : (s.extract i (i + 1)).size = 1 := by rw [ByteArray.size_extract]; omega
      clear hne hRd ho hb hR
      go_wp2_with fail
      go_roundw
      case rel => exact ⟨i + 1, l, a, c, cur ++ s.extract i (i + 1), by omega, by go_num, rfl, rfl, (unhide HO).1, (unhide HO).2, fun _ => unhide HRn, fun h => by omega, by omega, by rw [ByteArray.size_append]; omega⟩
      case measure => simp [intOf]; try omega
    · have hcond : i = s.size ∨ ∃ h : i < s.size, s[i] = 47 := by
        rcases Nat.lt_or_ge i s.size with h | h
        · exact .inr ⟨h, Classical.byContradiction fun e => hbyte ⟨h, e⟩⟩
        · exact .inl (by omega)
      cases hent : entB cur
      case false =>
        have HNo := hide (isPl_parts_no (unhide H0) (read_part hRd hcond) hent)
        clear ho hb hR hRd hbyte
        rcases hcond with hcond | ⟨hlt, h47⟩
        · have hnl : ¬ i < s.size := by omega
          go_wp2_with fail
          refine (unhide HE cur _ (by omega)).mono ?_
          rintro e w1 ⟨rfl, hw1⟩
          rw [hw1, hent]
          clear hw1 w1
          go_wp2_with fail
          go_ret2
          exact ⟨(unhide HO).2, .inr ⟨unhide HNo, rfl⟩⟩
        · have hb1' : ((s[i].toNat : Int) == 47) = true := by rw [h47]; rfl
          clear h47
          go_wp2_with fail
          refine (unhide HE cur _ (by omega)).mono ?_
          rintro e w1 ⟨rfl, hw1⟩
          rw [hw1, hent]
          clear hw1 w1
          go_wp2_with fail
          go_ret2
          exact ⟨(unhide HO).2, .inr ⟨unhide HNo, rfl⟩⟩
      case true =>
        have ho1 : (wr.alloc (.cells #[.string cur] 9)).ownsRow w.heap.size 9 1 (.slice a l.length c) l.length (l.map .string) := owns_same ho (fun g hg => Below.heap_alloc _ _ _ (owns_lt ho g hg).2) (fun _ _ h => h)
        have hbs := hb.size
        obtain ⟨v', w2, happ, ho2, hg, -⟩ := app23_own _ w.heap.size _ _ (.slice a l.length c) l.length _ _ 1 1 [.string cur] ho1 (one_row wr [.string cur] 9) rfl (fun u hu => by simp at hu; subst hu; rfl) (by omega) (by simp; omega)
        obtain ⟨a', c', rfl, _⟩ := owns_slice ho2
        have hb2 : Below w.heap.size w w2 := (hb.alloc hbs _).grown hg (by simp; omega) (fun k hk => (owns_lt ho k hk).1)
        have HO2 : Hid (w2.ownsRow w.heap.size 9 1 (.slice a' (l ++ [cur]).length c') (l ++ [cur]).length ((l ++ [cur]).map .string) ∧ Below w.heap.size w w2) := by
          refine ⟨?_, hb2⟩
          rw [show (l ++ [cur]).length = l.length + 1 by simp, show (l ++ [cur]).map Value.string = l.map Value.string ++ [.string cur] by simp]
          exact ho2
        have HRn : Hid (Reads s (i + 1) (l ++ [cur]) ⟨#[]⟩) := by
          refine ⟨fun h => ?_, fun h => ?_, by simp; omega, Nat.zero_le _⟩
          · rcases hcond with h1 | ⟨h1, h2⟩
            · omega
            · exact read_slash hRd h1 h2 hent
          · obtain rfl : i = s.size := by omega
            refine ⟨read_end hRd, fun x hx => ?_⟩
            rcases List.mem_append.1 hx with h1 | h1
            · exact hRd.2 x h1
            · simp at h1; subst h1; exact hent
        clear ho hb hR hRd hbyte ho1 ho2 hg hb2 hbs HO
        rcases hcond with hcond | ⟨hlt, h47⟩
        · have hnl : ¬ i < s.size := by omega
          go_wp2_with fail
          refine (unhide HE cur _ (by omega)).mono ?_
          rintro e w1 ⟨rfl, hw1⟩
          rw [hw1, hent]
          clear hw1 w1
          go_wp2_with fail
          go_roundw
          case rel => exact ⟨i + 1, l ++ [cur], a', c', ⟨#[]⟩, by omega, by go_num, by simp, rfl, (unhide HO2).1, (unhide HO2).2, unhide HRn⟩
          case measure => simp [intOf]; try omega
        · have hb1' : ((s[i].toNat : Int) == 47) = true := by rw [h47]; rfl
          clear h47
          go_wp2_with fail
          refine (unhide HE cur _ (by omega)).mono ?_
          rintro e w1 ⟨rfl, hw1⟩
          rw [hw1, hent]
          clear hw1 w1
          go_wp2_with fail
          go_roundw
          case rel => exact ⟨i + 1, l ++ [cur], a', c', ⟨#[]⟩, by omega, by go_num, by simp, rfl, (unhide HO2).1, (unhide HO2).2, unhide HRn⟩
          case measure => simp [intOf]; try omega
end Go.Proofs.YthfjofmfiklegaaDoor
