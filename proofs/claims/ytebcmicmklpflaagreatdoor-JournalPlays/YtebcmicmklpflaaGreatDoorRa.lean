/- The journal's files: part, sweep, mend; Add. -/
import Derived.Test.YtebcmicmklpflaaGreatDoorK8
import Derived.Deep.QuietTactic
namespace Go.Proofs.YtebcmicmklpflaaGreatDoor
open Go.RowKit Go.Maps
set_option linter.unusedSimpArgs false
theorem setCell_id {w : World} {b o : Nat} {v : Value} (h : w.cell? ⟨b, o, none⟩ = some v) : w.setCell ⟨b, o, none⟩ v = w := by
  have hb := set_self h
  have ha : (w.setCell ⟨b, o, none⟩ v).heap = w.heap := by
    apply Array.ext_getElem?
    intro i
    by_cases hi : i = b
    · rw [hi]; exact hb
    · exact set_other _ _ _ _ _ hi
  unfold World.setCell at *
  simp only at ha
  rw [ha]
set_option maxRecDepth 20000 in
theorem part_zero (j : Nat) (nm : ByteArray) (w : World) (h : w.cell? ⟨j, 1, none⟩ = some (.string nm)) : Calls Tryz.prog 97 #[.pointer (some ⟨j, 0, none⟩), .int .i64 0] w fun e w' => e = .returned (.string nm) ∧ w' = w := by
  go_enter Tryz.func97, Tryz.ntmps97
  go_wp2_with fail
  go_ret
  exact ⟨rfl, rfl⟩
set_option maxRecDepth 20000 in
theorem small_one (w : World) : Calls Tryz.prog 229 #[.int .i64 1] w fun e w' => e = .returned (.string ⟨#[49]⟩) ∧ w' = w := by
  go_enter Tryz.func229, Tryz.ntmps229
  go_wp2_with fail
  go_ret
  exact ⟨rfl, rfl⟩
set_option maxRecDepth 20000 in
theorem format_one (w : World) : Calls Tryz.prog 212 #[.int .i64 1, .int .i64 10] w fun e w' => e = .returned (.string ⟨#[49]⟩) ∧ w' = w := by
  have HS := hide small_one
  go_enter Tryz.func212, Tryz.ntmps212
  go_wp2_with fail
  refine (unhide HS _).mono ?_
  rintro e w' ⟨rfl, rfl⟩
  go_wp2_with fail
  go_ret
  exact ⟨rfl, rfl⟩
set_option maxRecDepth 20000 in
theorem itoa_in (w : World) : Calls Tryz.prog 177 #[.int .i64 1] w fun e w' => e = .returned (.string ⟨#[49]⟩) ∧ w' = w := by
  have HS := hide format_one
  go_enter Tryz.func177, Tryz.ntmps177
  go_wp2_with fail
  refine (unhide HS _).mono ?_
  rintro e w' ⟨rfl, rfl⟩
  go_wp2_with fail
  go_ret
  exact ⟨rfl, rfl⟩
set_option maxRecDepth 20000 in
theorem itoa_one (w : World) : Calls Tryz.prog 130 #[.int .i64 1] w fun e w' => e = .returned (.string ⟨#[49]⟩) ∧ w' = w := by
  have HS := hide itoa_in
  go_enter Tryz.func130, Tryz.ntmps130
  go_wp2_with fail
  refine (unhide HS _).mono ?_
  rintro e w' ⟨rfl, rfl⟩
  go_wp2_with fail
  go_ret
  exact ⟨rfl, rfl⟩
/-- What stands between a journal's name and a part's number. -/
def mark : ByteArray := ⟨#[46, 112, 97, 114, 116, 45]⟩
def part1 (nm : ByteArray) : ByteArray := nm ++ mark ++ ⟨#[49]⟩
set_option maxRecDepth 20000 in
theorem part_one (j : Nat) (nm : ByteArray) (w : World) (h : w.cell? ⟨j, 1, none⟩ = some (.string nm)) (hn : nm.size ≤ 100) : Calls Tryz.prog 97 #[.pointer (some ⟨j, 0, none⟩), .int .i64 1] w fun e w' => e = .returned (.string (part1 nm)) ∧ Below w.heap.size w w' := by
  have HS := hide itoa_one
  have hs1 : ¬ (9223372036854775807 < nm.size + 6) := by omega
  go_enter Tryz.func97, Tryz.ntmps97
  go_wp2_with fail
  go_quiet (first | (go_at_call 130; exact Calls.quiet_of_same (unhide HS _)))
  go_wp2_with fail
  go_ret
  exact ⟨rfl, ⟨rfl, rfl, rfl, Nat.le_refl _, fun _ _ => rfl⟩⟩
set_option maxRecDepth 20000 in
theorem sweep_none (j : Nat) (w : World) (h : w.cell? ⟨j, 3, none⟩ = some (.slice none 0 0)) (hz : w.frozen? ⟨j, 3, none⟩ = false) : Calls Tryz.prog 109 #[.pointer (some ⟨j, 0, none⟩)] w fun e w' => e = .returned (.int .i64 0) ∧ w' = w := by
  have hid := setCell_id h
  go_enter Tryz.func109, Tryz.ntmps109
  go_wp2_with fail
  go_loop [11] (fun i => i = .int .i64 0) (fun _ => 0)
  case atStart => rfl
  case round =>
    subst hrel
    go_wp2_with fail
    go_ret
    exact ⟨rfl, rfl⟩
set_option maxRecDepth 20000 in
theorem mend_none (j : Nat) (w : World) (h : w.cell? ⟨j, 3, none⟩ = some (.slice none 0 0)) (h4 : w.cell? ⟨j, 4, none⟩ = some (.bool false)) (hz : w.frozen? ⟨j, 3, none⟩ = false) : Calls Tryz.prog 104 #[.pointer (some ⟨j, 0, none⟩)] w fun e w' => e = .returned (.int .i64 0) ∧ w' = w := by
  have HS := hide (sweep_none j w h hz)
  go_enter Tryz.func104, Tryz.ntmps104
  go_wp2_with fail
  refine (unhide HS).mono ?_
  rintro e w' ⟨rfl, rfl⟩
  go_wp2_with fail
  go_ret
  exact ⟨rfl, rfl⟩
end Go.Proofs.YtebcmicmklpflaaGreatDoor
