/- Two arrays of the same bytes are equal. -/
import Derived.Test.YtikamklgelcnhaaHsh
import Derived.ChangeKeysEq
namespace Go.Proofs.Ytikamklgelcnhaa.Dg
open Go.RowKit Go.Great
theorem part5 (w : World) (l : List Nat) (i : Nat) (h : i < l.length) : (part 5 (E8 l) i).run Try.prog w = .ok (.int .u8 ((Sha.nth l i : Nat) : Int)) w := by
  simp [part, go_sem, h]
theorem cells5 : Try.prog.cellsOf 5 = 1 := by kernel_rfl
theorem eqItems_same (w : World) (l : List Nat) : ∀ is : List Nat, (∀ i ∈ is, i < l.length) → (Op.eqItems 9999 5 1 (E8 l) (E8 l) is).run Try.prog w = .ok true w
  | [], _ => by simp [Op.eqItems]
  | i :: is, h => by
    have h1 := part5 w l i (h i (by simp))
    have h2 := eqItems_same w l is (fun j hj => h j (by simp [hj]))
    have h3 : (Op.equalIn 9999 5 (.int .u8 ((Sha.nth l i : Nat) : Int)) (.int .u8 ((Sha.nth l i : Nat) : Int))).run Try.prog w = .ok true w := by
      rw [show (9999 : Nat) = 9998 + 1 from rfl, run_equalIn_int w 9998 5 .u8 .u8 _ _ Try.underlying5]; simp
    simp only [Op.eqItems, Sem.run_bind, Nat.mul_one, h1, Result.andThen_ok, h3]
    simp [h2]
theorem eq_same (w : World) (t n : Nat) (l : List Nat) (hu : Try.prog.underlying t = some (.array n 5)) (hl : l.length = n) :
    (Op.equalIn 10000 t (.agg (E8 l)) (.agg (E8 l))).run Try.prog w = .ok true w := by
  obtain ⟨i, hi, -, -, -⟩ := info5_at
  rw [show (10000 : Nat) = 9999 + 1 from rfl, run_equalIn_array w 9999 (E8 l) (E8 l) hu hi, cells5]
  exact eqItems_same w l _ (fun j hj => by rw [hl]; exact List.mem_range.1 hj)
@[go_sem] theorem eq35 (w : World) (l : List Nat) (hl : l.length = 32) : (Op.equalIn 10000 35 (.agg (E8 l)) (.agg (E8 l))).run Try.prog w = .ok true w := eq_same w 35 32 l Try.underlying35 hl
theorem run_eqB (w : World) (l : List Nat) (hl : l.length = 32) : (binOp .eql 35 (.agg (E8 l)) (.agg (E8 l))).run Try.prog w = .ok (.bool true) w := by
  rw [run_eql_struct, eq35 w l hl]; rfl
theorem guard35 : Try.prog.eqGuardType Try.prog.depth 35 = false := by kernel_rfl
end Go.Proofs.Ytikamklgelcnhaa.Dg
