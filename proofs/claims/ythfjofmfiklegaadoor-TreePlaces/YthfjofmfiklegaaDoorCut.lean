/- Places: names with a slash between; strings.Cut of one. -/
import Derived.Test.YthfjofmfiklegaaDoorBs
import Derived.OwnWalk
namespace Go.Proofs.YthfjofmfiklegaaDoor
open Go.RowKit
/-- Names with a slash between. -/
def joinB : List ByteArray → ByteArray
  | [] => ⟨#[]⟩
  | [n] => n
  | n :: m :: r => ⟨n.data ++ (#[47] ++ (joinB (m :: r)).data)⟩
theorem index_at (a b : List UInt8) (h : (47 : UInt8) ∉ a) : Lib.indexByte (a ++ 47 :: b) 47 = (a.length : Int) := by
  induction a with
  | nil => simp [Lib.indexByte]
  | cons x r ih =>
    have h1 : ¬ x = 47 := fun e => h (by simp [e])
    have h2 := ih (fun e => h (by simp [e]))
    simp only [List.cons_append, Lib.indexByte, h2]
    have e1 : (x == 47) = false := by simpa using h1
    have e2 : (((r.length : Nat) : Int) == -1) = false := by rw [beq_eq_false_iff_ne]; omega
    rw [e1, e2]
    simp
theorem index_none (a : List UInt8) (h : (47 : UInt8) ∉ a) : Lib.indexByte a 47 = -1 := by
  have h1 := (ib_neg a 47).2 h
  have h2 := Lib.indexByte_ge a 47
  omega
theorem join_head (n m : ByteArray) (r : List ByteArray) : (joinB (n :: m :: r)).extract 0 n.size = n := by
  apply ByteArray.ext
  rw [ByteArray.data_extract, joinB]
  apply Array.ext'
  rw [Array.toList_extract]
  simp
theorem join_list (n m : ByteArray) (r : List ByteArray) : (joinB (n :: m :: r)).data.toList = n.data.toList ++ 47 :: (joinB (m :: r)).data.toList := by rw [joinB]; simp
theorem join_rest (n m : ByteArray) (r : List ByteArray) : (joinB (n :: m :: r)).extract (n.size + 1) (joinB (n :: m :: r)).size = joinB (m :: r) := by
  apply ByteArray.ext
  rw [ByteArray.data_extract]
  apply Array.ext'
  have e1 : (joinB (n :: m :: r)).size = (joinB (n :: m :: r)).data.toList.length := by simp
  rw [Array.toList_extract, List.extract_eq_take_drop, e1, join_list, List.take_of_length_le (by simp)]
  have e2 : n.size + 1 = (n.data.toList ++ [47]).length := by simp
  rw [e2, show n.data.toList ++ 47 :: (joinB (m :: r)).data.toList = (n.data.toList ++ [47]) ++ (joinB (m :: r)).data.toList by simp, List.drop_left']
  rfl
theorem join_size (n m : ByteArray) (r : List ByteArray) : (joinB (n :: m :: r)).size = n.size + 1 + (joinB (m :: r)).size := by
  have h := congrArg List.length (join_list n m r)
  simp at h
  omega
set_option maxRecDepth 20000 in
set_option maxHeartbeats 1000000 in
theorem cutI_any (n : ByteArray) (r : List ByteArray) (w : World) (hn : (47 : UInt8) ∉ n.data.toList) (hm : (joinB (n :: r)).size ≤ 1000000) :
    Calls Tryd.prog 75 #[.string (joinB (n :: r)), .string ⟨#[47]⟩] w fun e w' => (∃ q, w' = w.drewN q) ∧ ∃ b, e = .returned (.tuple #[.string n, .string (joinB r), .bool b]) := by
  have HI := hide (fun s w => Tryd.stringslite_Index_one s 47 w)
  cases r with
  | nil =>
    have e1 := hide (index_none n.data.toList hn)
    have e2 : joinB [n] = n := rfl
    have e3 : joinB [] = ⟨#[]⟩ := rfl
    rw [e2, e3]
    go_enter Tryd.func75, Tryd.ntmps75
    go_wp2_with fail
    refine (unhide HI _ _).mono ?_
    rintro e w' ⟨rfl, hw⟩
    rw [hw, unhide e1]
    clear hw w'
    go_wp2_with fail
    go_ret3
    exact ⟨⟨0, rfl⟩, false, rfl⟩
  | cons m r =>
    have e1 : Hid (Lib.indexByte (joinB (n :: m :: r)).data.toList 47 = (n.size : Int)) := by
      show Lib.indexByte (joinB (n :: m :: r)).data.toList 47 = (n.size : Int)
      rw [join_list, index_at _ _ hn]; simp
    have e2 := join_head n m r
    have e3 := join_rest n m r
    have e4 := join_size n m r
    have hm2 : n.size + 1 ≤ (joinB (n :: m :: r)).size := by omega
    have hm3 : n.size ≤ (joinB (n :: m :: r)).size := by omega
    generalize joinB (n :: m :: r) = s at *
    generalize joinB (m :: r) = s' at *
    have E4 := hide e4
    clear e4
    go_enter Tryd.func75, Tryd.ntmps75
    go_wp2_with fail
    refine (unhide HI _ _).mono ?_
    rintro e w' ⟨rfl, hw⟩
    rw [hw, unhide e1]
    clear hw w'
    go_wp2_with fail
    go_quiet (fail)
    go_wp2_with fail
    go_ret3
    exact ⟨⟨_, rfl⟩, true, rfl⟩
set_option maxRecDepth 20000 in
set_option maxHeartbeats 1000000 in
theorem cut_any (n : ByteArray) (r : List ByteArray) (w : World) (hn : (47 : UInt8) ∉ n.data.toList) (hm : (joinB (n :: r)).size ≤ 1000000) :
    Calls Tryd.prog 53 #[.string (joinB (n :: r)), .string ⟨#[47]⟩] w fun e w' => (∃ q, w' = w.drewN q) ∧ ∃ b, e = .returned (.tuple #[.string n, .string (joinB r), .bool b]) := by
  have HI := hide (cutI_any n r w hn hm)
  generalize joinB (n :: r) = s at *
  generalize joinB r = s' at *
  go_enter Tryd.func53, Tryd.ntmps53
  go_wp2_with fail
  refine (unhide HI).mono ?_
  rintro e w' ⟨⟨q, rfl⟩, b, rfl⟩
  go_wp2_with fail
  go_ret3
  exact ⟨⟨q, rfl⟩, b, rfl⟩
end Go.Proofs.YthfjofmfiklegaaDoor
