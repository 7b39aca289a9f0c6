/- below: the place of an entry. -/
import Derived.Test.YthfjofmfiklegaaDoorClc
import Derived.Test.YthfjofmfiklegaaDoorCut
namespace Go.Proofs.YthfjofmfiklegaaDoor
open Go.RowKit
/-- The place of an entry. -/
def belowB (p n : ByteArray) : ByteArray := if p.size = 0 then n else p ++ ⟨#[47]⟩ ++ n
set_option maxRecDepth 20000 in
set_option maxHeartbeats 1000000 in
theorem below_any (p n : ByteArray) (w : World) (hp : p.size ≤ 100000000) (hn : n.size ≤ 100000000) :
    Calls Tryd.prog 45 #[.string p, .string n] w fun e w' => e = .returned (.string (belowB p n)) ∧ Below w.heap.size w w' := by
  have HC := hide (fun w => sclone_any n w (by omega))
  by_cases h0 : p.size = 0
  · have e0 : (p.toList == []) = true := by rw [ByteArray.toList_eq]; have : p.data.toList = [] := List.eq_nil_of_length_eq_zero h0; rw [this]; rfl
    have hB : belowB p n = n := by unfold belowB; rw [if_pos h0]
    rw [hB]
    clear hB h0
    go_enter Tryd.func45, Tryd.ntmps45
    go_wp2_with fail
    refine (unhide HC _).mono ?_
    rintro e w1 ⟨rfl, hb⟩
    go_wp2_with fail
    go_ret
    exact ⟨rfl, hb⟩
  · have e0 : (p.toList == []) = false := by rw [beq_eq_false_iff_ne, ByteArray.toList_eq]; intro h; apply h0; show p.data.toList.length = 0; rw [h]; rfl
    have hB : belowB p n = p ++ ⟨#[47]⟩ ++ n := by unfold belowB; rw [if_neg h0]
    rw [hB]
    clear hB h0
    go_enter Tryd.func45, Tryd.ntmps45
    go_wp2_with fail
    go_ret
    exact ⟨rfl, Below.refl _ _⟩
end Go.Proofs.YthfjofmfiklegaaDoor
