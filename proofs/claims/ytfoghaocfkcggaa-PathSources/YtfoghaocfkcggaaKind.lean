/- kindOf: a word, and behind it a colon and a text for each of some texts, put together by a Builder. -/
import Derived.Test.YtfoghaocfkcggaaSorts
import Derived.Test.YtfoghaocfkcggaaBuild
namespace Go.Proofs.Ytfoghaocfkcggaa
namespace Ord
/-- A kind: a word, and so many of the texts, each behind a colon. -/
def kindTo (k : S) (Z : List S) : Nat → S
  | 0 => k
  | i + 1 => kindTo k Z i ++ (58 :: Z.getD i [])
def kindU (k : S) (Z : List S) : S := kindTo k Z Z.length
theorem kindTo_length (k : S) (Z : List S) (M : Nat) (hM : ∀ z ∈ Z, z.length ≤ M) : ∀ i, i ≤ Z.length → (kindTo k Z i).length ≤ k.length + i * (M + 1)
  | 0, _ => by simp [kindTo]
  | i + 1, hi => by
    have h := kindTo_length k Z M hM i (by omega)
    have hz : (Z.getD i []).length ≤ M := by
      rw [List.getD_eq_getElem?_getD, List.getElem?_eq_getElem (by omega)]
      exact hM _ (List.getElem_mem _)
    simp only [kindTo, List.length_append, List.length_cons]
    rw [Nat.add_mul]
    omega
end Ord
open Go.RowKit Go.Great
theorem strCells_arr (l : Ord.S) : Lib.strCells ⟨l.toArray⟩ = Lib.byteCells l := rfl
theorem arr_size (l : Ord.S) : (⟨l.toArray⟩ : ByteArray).size = l.length := by simp [ByteArray.size]
theorem byteCells_append (a b : Ord.S) : Lib.byteCells (a ++ b) = Lib.byteCells a ++ Lib.byteCells b := by simp [Lib.byteCells]
set_option maxRecDepth 20000 in
set_option maxHeartbeats 1000000 in
theorem kindP_some (k : Ord.S) (g o n cap : Nat) (Z : List Ord.S) (w : World) (hn : Z.length = n) (hg : g < w.heap.size) (hc : ∀ i, i < n → w.cell? ⟨g, o + i, none⟩ = some (encStr (Z.getD i []))) (hk : k.length ≤ 1000) (hZ : ∀ z ∈ Z, z.length ≤ 1000) (hmax : n ≤ 2000) :
    Calls Try.prog 51 #[.string ⟨k.toArray⟩, .slice (some ⟨g, o, none⟩) n cap] w fun e w' => e = .returned (.string ⟨(Ord.kindU k Z).toArray⟩) ∧ Below w.heap.size w w' := by
  have HC : Hid (∀ i, i < n → w.cell? ⟨g, o + i, none⟩ = some (.string ⟨(Z.getD i []).toArray⟩)) := hc
  have HL : Hid (∀ i, i ≤ n → (Ord.kindTo k Z i).length ≤ 1000 + i * 1001) := fun i hi => by have := Ord.kindTo_length k Z 1000 hZ i (by omega); omega
  have HZ : Hid (∀ i, (Z.getD i []).length ≤ 1000) := fun i => by
    rw [List.getD_eq_getElem?_getD]
    cases h : Z[i]? with
    | none => simp
    | some z => exact hZ z (List.mem_of_getElem? h)
  have HK : Hid (Ord.kindU k Z = Ord.kindTo k Z n) := by unfold Ord.kindU; rw [hn]; exact rfl
  have HS : Hid (∀ i, Ord.kindTo k Z (i + 1) = Ord.kindTo k Z i ++ (58 :: Z.getD i [])) := fun i => rfl
  have H0 : Hid (Ord.kindTo k Z 0 = k) := rfl
  clear hc hZ
  go_enter Try.func51, Try.ntmps51
  go_wp2_with fail
  refine (writeString_any w.heap.size w.heap.size [] ⟨k.toArray⟩ _ (Lib.fresh_isBuilder 82 5 w) (by rw [arr_size]; simp; omega) (by simp)).mono ?_
  rintro e w1 ⟨rfl, hB1, hb1⟩
  have hbl1 : Below w.heap.size w w1 := ((Below.refl _ _).alloc (Nat.le_refl _) _).trans hb1
  have hz1 : w.heap.size + 1 ≤ w1.heap.size := by have := hb1.size; simp at this; exact this
  rw [List.nil_append, strCells_arr] at hB1
  rw [← unhide H0] at hB1
  clear hb1
  go_wp2_with fail
  go_loopw [12] (fun vi wr => ∃ i : Nat, i ≤ n ∧ vi = .int .i64 (i : Int) ∧ Below w.heap.size w wr ∧ Hid (Lib.BuilderAt 82 5 w.heap.size w.heap.size (.pointer (some ⟨w.heap.size, 0, none⟩)) (Lib.byteCells (Ord.kindTo k Z i)) wr)) (fun vi _ => n - (intOf vi).toNat)
  case atStart => exact ⟨0, by omega, rfl, hbl1, hB1⟩
  case round =>
    obtain ⟨i, hi, rfl, hbl, hB⟩ := hrel
    have hbz := hbl.size
    by_cases hlt : i < n
    · have hci : wr.cell? ⟨g, o + i, none⟩ = some (.string ⟨(Z.getD i []).toArray⟩) := by
        rw [hbl.cell (p := ⟨g, o + i, none⟩) hg]; exact unhide HC i hlt
      have hzl := unhide HZ i
      have hkl := unhide HL i hi
      have hS := hide (unhide HS i)
      generalize Z.getD i [] = z at *
      generalize Ord.kindTo k Z i = K at *
      go_wp2_with fail
      refine (writeByte_any w.heap.size w.heap.size (Lib.byteCells K) 58 _ (.inr (unhide hB)) (by rw [Lib.byteCells_length]; omega) hbz).mono ?_
      rintro e w2 ⟨rfl, hB2, hb2⟩
      have hbl2 : Below w.heap.size w w2 := hbl.trans hb2
      have hbz2 := hbl2.size
      go_wp2_with fail
      refine (writeString_any w.heap.size w.heap.size _ ⟨z.toArray⟩ _ (.inr hB2) (by rw [arr_size]; simp [Lib.byteCells_length]; omega) hbz2).mono ?_
      rintro e w3 ⟨rfl, hB3, hb3⟩
      have hbl3 : Below w.heap.size w w3 := hbl2.trans hb3
      have hB4 : Hid (Lib.BuilderAt 82 5 w.heap.size w.heap.size (.pointer (some ⟨w.heap.size, 0, none⟩)) (Lib.byteCells (Ord.kindTo k Z (i + 1))) w3) := by
        rw [unhide hS, byteCells_append]
        have e : Lib.byteCells K ++ [Value.int .u8 58] ++ Lib.strCells ⟨z.toArray⟩ = Lib.byteCells K ++ Lib.byteCells (58 :: z) := by
          rw [List.append_assoc, strCells_arr]; rfl
        rw [← e]; exact hB3
      clear hB2 hb2 hB3 hb3 hbl2 hbz2 hB hbl hci
      go_wp2
      go_roundw
      case rel => exact ⟨i + 1, by omega, by go_num, hbl3, hB4⟩
      case measure => simp [intOf]; try omega
    · obtain rfl : i = n := by omega
      go_wp2_with fail
      refine (builderString_any w.heap.size w.heap.size (Ord.kindTo k Z i) _ (.inr (unhide hB)) hbz).mono ?_
      rintro e w2 ⟨rfl, hb2⟩
      have hbl2 : Below w.heap.size w w2 := hbl.trans hb2
      go_wp2
      go_ret
      exact ⟨by rw [unhide HK]; rfl, hbl2⟩
set_option maxRecDepth 20000 in
set_option maxHeartbeats 1000000 in
theorem kindP_none (k : Ord.S) (a : Option Addr) (cap : Nat) (w : World) (hk : k.length ≤ 1000) :
    Calls Try.prog 51 #[.string ⟨k.toArray⟩, .slice a 0 cap] w fun e w' => e = .returned (.string ⟨(Ord.kindU k []).toArray⟩) ∧ Below w.heap.size w w' := by
  have HK : Hid (Ord.kindU k [] = k) := rfl
  go_enter Try.func51, Try.ntmps51
  go_wp2_with fail
  refine (writeString_any w.heap.size w.heap.size [] ⟨k.toArray⟩ _ (Lib.fresh_isBuilder 82 5 w) (by rw [arr_size]; simp; omega) (by simp)).mono ?_
  rintro e w1 ⟨rfl, hB1, hb1⟩
  have hbl1 : Below w.heap.size w w1 := ((Below.refl _ _).alloc (Nat.le_refl _) _).trans hb1
  rw [List.nil_append, strCells_arr] at hB1
  have HB1 := hide hB1
  clear hb1 hB1
  go_wp2_with fail
  go_loopw [12] (fun vi wr => vi = .int .i64 0 ∧ wr = w1) (fun _ _ => 0)
  case atStart => exact ⟨rfl, rfl⟩
  case round =>
    obtain ⟨rfl, rfl⟩ := hrel
    go_wp2_with fail
    refine (builderString_any w.heap.size w.heap.size k _ (.inr (unhide HB1)) hbl1.size).mono ?_
    rintro e w2 ⟨rfl, hb2⟩
    have hbl2 : Below w.heap.size w w2 := hbl1.trans hb2
    go_wp2
    go_ret
    exact ⟨by rw [unhide HK]; rfl, hbl2⟩
theorem kindP_any (k : Ord.S) (v : Value) (Z : List Ord.S) (w : World) (hv : StrsAt w v Z) (hk : k.length ≤ 1000) (hZ : ∀ z ∈ Z, z.length ≤ 1000) (hmax : Z.length ≤ 2000) :
    Calls Try.prog 51 #[.string ⟨k.toArray⟩, v] w fun e w' => e = .returned (.string ⟨(Ord.kindU k Z).toArray⟩) ∧ Below w.heap.size w w' := by
  obtain ⟨a, cap, rfl, hc, hx⟩ := hv
  by_cases h0 : 0 < Z.length
  · obtain ⟨g, o, rfl, hg, hcell⟩ := hx h0
    exact kindP_some k g o Z.length cap Z w rfl hg hcell hk hZ hmax
  · obtain rfl : Z = [] := List.eq_nil_of_length_eq_zero (by omega)
    exact kindP_none k a cap w hk
set_option maxRecDepth 20000 in
set_option maxHeartbeats 1000000 in
theorem kindS_some (k : Ord.S) (g o n cap : Nat) (Z : List Ord.S) (w : World) (hn : Z.length = n) (hg : g < w.heap.size) (hc : ∀ i, i < n → w.cell? ⟨g, o + i, none⟩ = some (encStr (Z.getD i []))) (hk : k.length ≤ 1000) (hZ : ∀ z ∈ Z, z.length ≤ 1000) (hmax : n ≤ 2000) :
    Calls Try.prog 38 #[.string ⟨k.toArray⟩, .slice (some ⟨g, o, none⟩) n cap] w fun e w' => e = .returned (.string ⟨(Ord.kindU k Z).toArray⟩) ∧ Below w.heap.size w w' := by
  have HC : Hid (∀ i, i < n → w.cell? ⟨g, o + i, none⟩ = some (.string ⟨(Z.getD i []).toArray⟩)) := hc
  have HL : Hid (∀ i, i ≤ n → (Ord.kindTo k Z i).length ≤ 1000 + i * 1001) := fun i hi => by have := Ord.kindTo_length k Z 1000 hZ i (by omega); omega
  have HZ : Hid (∀ i, (Z.getD i []).length ≤ 1000) := fun i => by
    rw [List.getD_eq_getElem?_getD]
    cases h : Z[i]? with
    | none => simp
    | some z => exact hZ z (List.mem_of_getElem? h)
  have HK : Hid (Ord.kindU k Z = Ord.kindTo k Z n) := by unfold Ord.kindU; rw [hn]; exact rfl
  have HS : Hid (∀ i, Ord.kindTo k Z (i + 1) = Ord.kindTo k Z i ++ (58 :: Z.getD i [])) := fun i => rfl
  have H0 : Hid (Ord.kindTo k Z 0 = k) := rfl
  clear hc hZ
  go_enter Try.func38, Try.ntmps38
  go_wp2_with fail
  refine (writeString_any w.heap.size w.heap.size [] ⟨k.toArray⟩ _ (Lib.fresh_isBuilder 82 5 w) (by rw [arr_size]; simp; omega) (by simp)).mono ?_
  rintro e w1 ⟨rfl, hB1, hb1⟩
  have hbl1 : Below w.heap.size w w1 := ((Below.refl _ _).alloc (Nat.le_refl _) _).trans hb1
  have hz1 : w.heap.size + 1 ≤ w1.heap.size := by have := hb1.size; simp at this; exact this
  rw [List.nil_append, strCells_arr] at hB1
  rw [← unhide H0] at hB1
  clear hb1
  go_wp2_with fail
  go_loopw [12] (fun vi wr => ∃ i : Nat, i ≤ n ∧ vi = .int .i64 (i : Int) ∧ Below w.heap.size w wr ∧ Hid (Lib.BuilderAt 82 5 w.heap.size w.heap.size (.pointer (some ⟨w.heap.size, 0, none⟩)) (Lib.byteCells (Ord.kindTo k Z i)) wr)) (fun vi _ => n - (intOf vi).toNat)
  case atStart => exact ⟨0, by omega, rfl, hbl1, hB1⟩
  case round =>
    obtain ⟨i, hi, rfl, hbl, hB⟩ := hrel
    have hbz := hbl.size
    by_cases hlt : i < n
    · have hci : wr.cell? ⟨g, o + i, none⟩ = some (.string ⟨(Z.getD i []).toArray⟩) := by
        rw [hbl.cell (p := ⟨g, o + i, none⟩) hg]; exact unhide HC i hlt
      have hzl := unhide HZ i
      have hkl := unhide HL i hi
      have hS := hide (unhide HS i)
      generalize Z.getD i [] = z at *
      generalize Ord.kindTo k Z i = K at *
      go_wp2_with fail
      refine (writeByte_any w.heap.size w.heap.size (Lib.byteCells K) 58 _ (.inr (unhide hB)) (by rw [Lib.byteCells_length]; omega) hbz).mono ?_
      rintro e w2 ⟨rfl, hB2, hb2⟩
      have hbl2 : Below w.heap.size w w2 := hbl.trans hb2
      have hbz2 := hbl2.size
      go_wp2_with fail
      refine (writeString_any w.heap.size w.heap.size _ ⟨z.toArray⟩ _ (.inr hB2) (by rw [arr_size]; simp [Lib.byteCells_length]; omega) hbz2).mono ?_
      rintro e w3 ⟨rfl, hB3, hb3⟩
      have hbl3 : Below w.heap.size w w3 := hbl2.trans hb3
      have hB4 : Hid (Lib.BuilderAt 82 5 w.heap.size w.heap.size (.pointer (some ⟨w.heap.size, 0, none⟩)) (Lib.byteCells (Ord.kindTo k Z (i + 1))) w3) := by
        rw [unhide hS, byteCells_append]
        have e : Lib.byteCells K ++ [Value.int .u8 58] ++ Lib.strCells ⟨z.toArray⟩ = Lib.byteCells K ++ Lib.byteCells (58 :: z) := by
          rw [List.append_assoc, strCells_arr]; rfl
        rw [← e]; exact hB3
      clear hB2 hb2 hB3 hb3 hbl2 hbz2 hB hbl hci
      go_wp2
      go_roundw
      case rel => exact ⟨i + 1, by omega, by go_num, hbl3, hB4⟩
      case measure => simp [intOf]; try omega
    · obtain rfl : i = n := by omega
      go_wp2_with fail
      refine (builderString_any w.heap.size w.heap.size (Ord.kindTo k Z i) _ (.inr (unhide hB)) hbz).mono ?_
      rintro e w2 ⟨rfl, hb2⟩
      have hbl2 : Below w.heap.size w w2 := hbl.trans hb2
      go_wp2
      go_ret
      exact ⟨by rw [unhide HK]; rfl, hbl2⟩
end Go.Proofs.Ytfoghaocfkcggaa
