/- FromHex, in the code and in the document's own answer: the same digest, the same refusals. -/
import Derived.Test.YtlbfcneboaihnaaK1
namespace Go.Proofs.Ytlbfcneboaihnaa
open Go.RowKit Go.Great

/-- A text's bytes as numbers. -/
def bytesOf (s : ByteArray) : List Nat := s.data.toList.map UInt8.toNat
theorem bytesOf_length (s : ByteArray) : (bytesOf s).length = s.size := by simp [bytesOf]
theorem bytesOf_bytes (s : ByteArray) : Sha.Bytes (bytesOf s) := by
  intro x hx
  obtain ⟨b, -, rfl⟩ := List.mem_map.1 hx
  exact b.toNat_lt
theorem bytesOf_get (s : ByteArray) (i : Nat) (h : i < s.size) : s[i]? = some s[i] ∧ s[i].toNat = Sha.nth (bytesOf s) i := by
  refine ⟨by simp [h], ?_⟩
  unfold Sha.nth bytesOf
  rw [List.getElem?_map, List.getElem?_eq_getElem (by simpa using h)]
  rfl
def strIx (s : ByteArray) (v : Value) : Sem Value := Instr.index 9 (.string s) v
theorem index_strIx (s : ByteArray) (v : Value) : Instr.index 9 (.string s) v = strIx s v := rfl
theorem run_strIx (w : World) (s : ByteArray) (i : Nat) (h : i < s.size) : (strIx s (.int .i64 (i : Int))).run Try.prog w = .ok (.int .u8 ((Sha.nth (bytesOf s) i : Nat) : Int)) w := by
  obtain ⟨h1, h2⟩ := bytesOf_get s i h
  unfold strIx
  simp only [Instr.index, asIntOf, Sem.run_bind, Sem.run_pure, Result.andThen_ok, run_underlying Try.underlying9, Int.natCast_nonneg, if_true, Int.toNat_natCast, h1, h2]
theorem run_strIx_i (s : ByteArray) (x : Int) (i : Nat) (hx : x = (i : Int)) (h : i < s.size) : ∀ w, (strIx s (.int .i64 x)).run Try.prog w = .ok (.int .u8 ((Sha.nth (bytesOf s) i : Nat) : Int)) w := by
  subst hx; exact fun w => run_strIx w s i h
attribute [local go_sem] index_strIx
end Go.Proofs.Ytlbfcneboaihnaa
