/- slices.BinarySearch among names that rise; strings.Cut at a slash. -/
import Derived.Test.YthfjofmfiklegaaDoorOrd
import Derived.Test.YthfjofmfiklegaaDoorEnt
import Derived.Test.YthfjofmfiklegaaDoorBd
namespace Go.Proofs.YthfjofmfiklegaaDoor
open Go.RowKit
theorem nanC_any (x : ByteArray) (w : World) : Calls Tryd.prog 83 #[.string x] w fun e w' => e = .returned (.bool false) ∧ w' = w := by
  go_enter Tryd.func83, Tryd.ntmps83
  go_wp2
  go_ret
  exact ⟨rfl, rfl⟩
theorem nanS_any (x : ByteArray) (w : World) : Calls Tryd.prog 76 #[.string x] w fun e w' => e = .returned (.bool false) ∧ w' = w := by
  go_enter Tryd.func76, Tryd.ntmps76
  go_wp2
  go_ret
  exact ⟨rfl, rfl⟩
theorem less_any (x y : ByteArray) (w : World) : Calls Tryd.prog 68 #[.string x, .string y] w fun e w' => e = .returned (.bool (Op.bytesLess x.toList y.toList)) ∧ w' = w := by
  have HN := hide (fun x w => nanC_any x w)
  go_enter Tryd.func68, Tryd.ntmps68
  go_wp2_with (go_at_call 83; refine (unhide HN _ _).mono ?_; rintro e w' ⟨rfl, hw⟩; rw [hw]; clear hw w')
  go_ret
  exact ⟨rfl, rfl⟩
/-- Names that rise, each once. -/
def Rise (ns : List ByteArray) : Prop := ∀ i j, i < j → j < ns.length → (ns.getD i ⟨#[]⟩).toList < (ns.getD j ⟨#[]⟩).toList
/-- Where a name stands, or would, among names that rise. -/
def Found (ns : List ByteArray) (x : ByteArray) (e : Ending) : Prop :=
  ∃ (i : Nat) (b : Bool), e = .returned (.tuple #[.int .i64 (i : Int), .bool b]) ∧ i ≤ ns.length ∧ (∀ j, j < i → (ns.getD j ⟨#[]⟩).toList < x.toList) ∧ (∀ j, i ≤ j → j < ns.length → ¬ (ns.getD j ⟨#[]⟩).toList < x.toList) ∧ (b = true ↔ i < ns.length ∧ ns.getD i ⟨#[]⟩ = x)
theorem found_mk {ns : List ByteArray} {x : ByteArray} {n i : Nat} {b : Bool} (hn : n = ns.length) (h1 : i ≤ n) (h2 : ∀ j, j < i → (ns.getD j ⟨#[]⟩).toList < x.toList) (h3 : ∀ j, i ≤ j → j < n → ¬ (ns.getD j ⟨#[]⟩).toList < x.toList) (h4 : b = true ↔ i < n ∧ ns.getD i ⟨#[]⟩ = x) : Found ns x (.returned (.tuple #[.int .i64 (i : Int), .bool b])) := by
  subst hn; exact ⟨i, b, rfl, h1, h2, h3, h4⟩
set_option maxRecDepth 20000 in
set_option maxHeartbeats 1000000 in
theorem search_any (lo hi : Nat) (a : Option Addr) (c : Nat) (ns : List ByteArray) (x : ByteArray) (w : World) (hr : Row lo hi w (.slice a ns.length c) ns.length (ns.map .string)) (hR : Rise ns) (hmax : ns.length ≤ 1000000) :
    Calls Tryd.prog 54 #[.slice a ns.length c, .string x] w fun e w' => w' = w ∧ Found ns x e := by
  obtain ⟨n, hn⟩ : ∃ n, n = ns.length := ⟨_, rfl⟩
  rw [← hn] at hr hmax ⊢
  have HN := hide hn
  have HRi := hide hR
  have HC : Hid (∀ i, i < n → ∃ g o, a = some ⟨g, o, none⟩ ∧ w.cell? ⟨g, o + i, none⟩ = some (.string (ns.getD i ⟨#[]⟩))) := fun i hi => by
    obtain ⟨g, o, rfl, _, _, hcell⟩ := hr.at (by omega)
    exact ⟨g, o, rfl, hcell i _ (by rw [List.getElem?_map, List.getElem?_eq_getElem (show i < ns.length by omega), List.getD_eq_getElem?_getD, List.getElem?_eq_getElem (show i < ns.length by omega)]; rfl)⟩
  have HL := hide (fun x y w => less_any x y w)
  have HS := hide (fun x w => nanS_any x w)
  clear hn hR hr
  go_enter Tryd.func54, Tryd.ntmps54
  go_wp2_with fail
  go_loop [7, 8] (fun vl vh => ∃ l h : Nat, l ≤ h ∧ h ≤ n ∧ vl = .int .i64 (l : Int) ∧ vh = .int .i64 (h : Int) ∧ Hid (∀ j, j < l → (ns.getD j ⟨#[]⟩).toList < x.toList) ∧ Hid (∀ j, h ≤ j → j < n → ¬ (ns.getD j ⟨#[]⟩).toList < x.toList)) (fun vl vh => (intOf vh).toNat - (intOf vl).toNat)
  case atStart => exact ⟨0, n, by omega, by omega, rfl, rfl, fun j h => by omega, fun j h h' => by omega⟩
  case round =>
    obtain ⟨l, h, hlh, hhn, rfl, rfl, hlo, hhi⟩ := hrel
    by_cases hlt : l < h
    · obtain ⟨m, hm⟩ : ∃ m : Nat, (l + h) / 2 = m := ⟨_, rfl⟩
      have hmi : ((l : Int) + (h : Int)) / 2 = (m : Int) := by omega
      have hm1 : l ≤ m := by omega
      have hm2 : m < h := by omega
      obtain ⟨g, o, rfl, hcm⟩ := unhide HC m (by omega)
      have hmono : Hid (∀ j, j < n → (j < m → (ns.getD j ⟨#[]⟩).toList < (ns.getD m ⟨#[]⟩).toList) ∧ (m < j → (ns.getD m ⟨#[]⟩).toList < (ns.getD j ⟨#[]⟩).toList)) := fun j hj =>
        ⟨fun h => unhide HRi j m h (by rw [← unhide HN]; omega), fun h => unhide HRi m j h (by rw [← unhide HN]; omega)⟩
      clear hm
      by_cases hz : (ns.getD m ⟨#[]⟩).toList < x.toList
      · have hbl : Op.bytesLess (ns.getD m ⟨#[]⟩).toList x.toList = true := by rw [Go.Proofs.bytesLess_eq]; exact decide_eq_true hz
        have hlo' : Hid (∀ j, j < m + 1 → (ns.getD j ⟨#[]⟩).toList < x.toList) := fun j hj => by
          rcases Nat.lt_or_ge j m with h | h
          · exact Ord.trans ((unhide hmono j (by omega)).1 h) hz
          · obtain rfl : j = m := by omega
            exact hz
        clear hz hmono hlo
        generalize ns.getD m ⟨#[]⟩ = z at *
        go_wp2_with (go_at_call 68; refine (unhide HL _ _ _).mono ?_; rintro e w' ⟨rfl, hw⟩; rw [hw]; clear hw w')
        go_round
        case rel => exact ⟨m + 1, h, by omega, hhn, by go_num, rfl, hlo', hhi⟩
        case measure => simp [intOf]; try omega
      · have hbl : Op.bytesLess (ns.getD m ⟨#[]⟩).toList x.toList = false := by rw [Go.Proofs.bytesLess_eq]; exact decide_eq_false hz
        have hhi' : Hid (∀ j, m ≤ j → j < n → ¬ (ns.getD j ⟨#[]⟩).toList < x.toList) := fun j hj hjn hc => by
          rcases Nat.lt_or_ge m j with h | h
          · exact hz (Ord.trans ((unhide hmono j hjn).2 h) hc)
          · obtain rfl : j = m := by omega
            exact hz hc
        clear hz hmono hhi
        generalize ns.getD m ⟨#[]⟩ = z at *
        go_wp2_with (go_at_call 68; refine (unhide HL _ _ _).mono ?_; rintro e w' ⟨rfl, hw⟩; rw [hw]; clear hw w')
        go_round
        case rel => exact ⟨l, m, hm1, by omega, rfl, by first | rfl | (rw [hmi]), hlo, hhi'⟩
        case measure => simp [intOf]; try omega
    · obtain rfl : l = h := by omega
      by_cases hln : l < n
      · obtain ⟨g, o, rfl, hcm⟩ := unhide HC l hln
        by_cases he : ns.getD l ⟨#[]⟩ = x
        · have HE : Hid (∀ j, l ≤ j → j < n → ¬ (ns.getD j ⟨#[]⟩).toList < x.toList) := hhi
          rw [he] at hcm
          go_wp2_with (go_at_call 76; refine (unhide HS _ _).mono ?_; rintro e w' ⟨rfl, hw⟩; rw [hw]; clear hw w')
          go_ret2
          exact ⟨rfl, found_mk (unhide HN) hhn (unhide hlo) (unhide hhi) ⟨fun _ => ⟨hln, he⟩, fun _ => rfl⟩⟩
        · have hne : ((ns.getD l ⟨#[]⟩).toList == x.toList) = false := by
            rw [beq_eq_false_iff_ne]
            intro h
            rw [ByteArray.toList_eq, ByteArray.toList_eq] at h
            exact he (ByteArray.ext (Array.ext' h))
          have HEn := hide he
          clear he
          generalize hz : ns.getD l ⟨#[]⟩ = z at hcm hne
          have HZ := hide hz
          clear hz
          go_wp2_with (go_at_call 76; refine (unhide HS _ _).mono ?_; rintro e w' ⟨rfl, hw⟩; rw [hw]; clear hw w')
          go_ret2
          exact ⟨rfl, found_mk (unhide HN) hhn (unhide hlo) (unhide hhi) ⟨fun h => by simp at h, fun h => absurd h.2 (unhide HEn)⟩⟩
      · go_wp2_with (go_at_call 76; refine (unhide HS _ _).mono ?_; rintro e w' ⟨rfl, hw⟩; rw [hw]; clear hw w')
        go_ret2
        exact ⟨rfl, found_mk (unhide HN) hhn (unhide hlo) (unhide hhi) ⟨fun h => by simp at h, fun h => absurd h.1 hln⟩⟩
end Go.Proofs.YthfjofmfiklegaaDoor
