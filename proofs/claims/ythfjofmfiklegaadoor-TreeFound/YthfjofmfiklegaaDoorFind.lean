/- The document's find, in the code. -/
import Derived.Test.YthfjofmfiklegaaDoorElseS
import Derived.Test.YthfjofmfiklegaaDoorK6
namespace Go.Proofs.YthfjofmfiklegaaDoor
open Go.RowKit
/-- Where a name stands; -1: nowhere. -/
def findS (ns : List ByteArray) (x : ByteArray) : Int := if has ns x then (pos ns x : Int) else -1
theorem find_yes {ns : List ByteArray} {x : ByteArray} {i : Nat} (hr : Rise ns) (h : ns[i]? = some x) : findS ns x = (i : Int) := by
  have hp := pos_at hr h
  unfold findS has
  rw [hp, h]
  simp
theorem find_no {ns : List ByteArray} {x : ByteArray} (h : ∀ j, j < ns.length → ns.getD j ⟨#[]⟩ ≠ x) : findS ns x = -1 := by
  unfold findS
  cases hh : has ns x with
  | false => rfl
  | true =>
    have hlt := has_lt hh
    unfold has at hh
    have h1 := of_decide_eq_true hh
    exact absurd (by rw [List.getD_eq_getElem?_getD, h1]; rfl) (h _ hlt)
set_option maxRecDepth 20000 in
set_option maxHeartbeats 1000000 in
theorem find_any (k : Int) (x : Bool) (d : ByteArray) (ns : List ByteArray) (ks : List Tr) (nm : ByteArray) (lo hi : Nat) (cs : List Value) (w : World) (hL : Lies lo hi w (.mk k x d ns ks) cs) (hhi : hi ≤ w.heap.size) (hr : Rise ns) (hm : ns.length ≤ 100000) :
    Calls Tryd.prog 40 #[.agg cs.toArray, .string nm] w fun e w' => Below w.heap.size w w' ∧ e = .returned (.int .i64 (findS ns nm)) := by
  cases hL with
  | mk _ _ _ _ _ vd vn vk Ks hl hd hn hk hK =>
  obtain ⟨ad, cd, rfl, hcd⟩ := hd.slice
  obtain ⟨an, cn, rfl, hcn⟩ := hn.slice
  obtain ⟨ak, ck, rfl, hck⟩ := hk.slice
  obtain ⟨wA, hwA⟩ : ∃ wA, wA = w.alloc (.cells #[.int .i64 k, .bool x, .slice ad d.size cd, .slice an ns.length cn, .slice ak ks.length ck] 26) := ⟨_, rfl⟩
  have hbA : Below w.heap.size w wA := by rw [hwA]; exact (Below.refl _ _).alloc (Nat.le_refl _) _
  have hbx : Bx wA w.heap.size (.int .i64 k) (.bool x) (.slice ad d.size cd) (.slice an ns.length cn) (.slice ak ks.length ck) := by rw [hwA]; exact bx_new _ _ _ _ _ _
  have hnA := hn.below hbA hhi
  obtain ⟨N, hN⟩ : ∃ N, ns.length = N := ⟨_, rfl⟩
  rw [hN] at hnA hbx hm hwA ⊢
  obtain ⟨b0, b1, b2, b3, b4⟩ := hbx.cells
  have HC : Hid (∀ i, i < N → ∃ g o, an = some ⟨g, o, none⟩ ∧ wA.cell? ⟨g, o + i, none⟩ = some (.string (ns.getD i ⟨#[]⟩))) := fun i hi => row_str hnA hN i hi
  have HN := hide hN
  have HR := hide hr
  have HA := hide hbA
  have HwA := hide hwA
  clear hn hnA hk hd hl hK hN hr hbA hwA hbx
  go_enter Tryd.func40, Tryd.ntmps40
  go_wp2_with fail
  rw [← unhide HwA]
  go_loopw [5] (fun vi wr => ∃ i : Nat, i ≤ N ∧ vi = .int .i64 (i : Int) ∧ wr = wA ∧ Hid (∀ j, j < i → ns.getD j ⟨#[]⟩ ≠ nm)) (fun vi _ => N - (intOf vi).toNat)
  case atStart => exact ⟨0, by omega, rfl, rfl, fun j h => by omega⟩
  case round =>
    obtain ⟨i, hiN, rfl, rfl, hlo⟩ := hrel
    by_cases hlt : i < N
    · obtain ⟨g, o, rfl, hcx⟩ := unhide HC i hlt
      by_cases he : ns.getD i ⟨#[]⟩ = nm
      · have HF : Hid (findS ns nm = (i : Int)) := find_yes (unhide HR) (by
          have hi2 : i < ns.length := by rw [unhide HN]; exact hlt
          rw [List.getElem?_eq_getElem hi2]
          rw [List.getD_eq_getElem?_getD, List.getElem?_eq_getElem hi2] at he
          exact congrArg some he)
        rw [he] at hcx
        clear he hlo
        go_wp2_with fail
        go_ret
        exact ⟨unhide HA, by rw [unhide HF]; rfl⟩
      · have hne := bytes_ne he
        have hlo' : Hid (∀ j, j < i + 1 → ns.getD j ⟨#[]⟩ ≠ nm) := fun j hj => by
          rcases Nat.lt_or_ge j i with h | h
          · exact unhide hlo j h
          · obtain rfl : j = i := by omega
            exact he
        clear he hlo
        generalize ns.getD i ⟨#[]⟩ = z at hcx hne
        go_wp2_with fail
        go_roundw
        case rel => exact ⟨i + 1, by omega, by go_num, trivial, hlo'⟩
        case measure => simp [intOf]; try omega
    · obtain rfl : i = N := by omega
      have HF : Hid (findS ns nm = -1) := find_no (fun j hj => unhide hlo j (by rw [unhide HN] at hj; exact hj))
      go_wp2_with fail
      go_ret
      exact ⟨unhide HA, by rw [unhide HF]; rfl⟩
end Go.Proofs.YthfjofmfiklegaaDoor
