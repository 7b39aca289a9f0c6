/- The document's own Hex. -/
import Derived.Test.YtlbfcneboaihnaaStrs
namespace Go.Proofs.Ytlbfcneboaihnaa
open Go.RowKit Go.Great
attribute [local go_sem] f_8 f_1024 f_hi4 f_lo4

theorem wrap_u8' (n : Int) (h0 : 0 ≤ n) (h : n < 256) : IntKind.u8.wrap n = n := by rw [IntKind.wrap_u8]; omega
theorem wrap_u8 (n : Nat) (h : n < 256) : IntKind.u8.wrap (n : Int) = (n : Int) := wrap_u8' _ (by omega) (by omega)
@[go_sem] theorem strOf_size (l : List Nat) : (strOf l).size = l.length := by simp [strOf, ByteArray.size]
theorem strOf_append (a b : List Nat) : strOf a ++ strOf b = strOf (a ++ b) := by
  apply ByteArray.ext
  simp [ByteArray.data_append, strOf]
def hexS : ByteArray := ⟨#[48, 49, 50, 51, 52, 53, 54, 55, 56, 57, 97, 98, 99, 100, 101, 102]⟩
def hexSl (lo hi mx : Option Value) : Sem Value := Instr.sliceAt 9 (.string hexS) lo hi mx
@[go_sem] theorem sliceAt_hexS (lo hi mx : Option Value) : Instr.sliceAt 9 (.string ⟨#[48, 49, 50, 51, 52, 53, 54, 55, 56, 57, 97, 98, 99, 100, 101, 102]⟩) lo hi mx = hexSl lo hi mx := rfl
theorem hex_cut (k : Nat) (hk : k < 16) : hexS.extract k (k + 1) = strOf [hexd k] := by
  have : ∀ k : Fin 16, hexS.extract k.val (k.val + 1) = strOf [hexd k.val] := by decide +kernel
  exact this ⟨k, hk⟩
@[go_sem] theorem run_hexSl (w : World) (k : Nat) (hk : k < 16) : (hexSl (some (.int .u8 (k : Int))) (some (.int .u8 ((k : Int) + 1))) none).run Try.prog w = .ok (.string (strOf [hexd k])) w := by
  unfold hexSl
  rw [run_sliceAt_string w 9 _ _ _ _ Try.underlying9, run_slice_string w 9 hexS .u8 .u8 (k : Int) ((k : Int) + 1) Try.underlying9 (by omega) (by omega) (by show (k : Int) + 1 ≤ 16; omega)]
  rw [show ((k : Int) + 1).toNat = k + 1 by omega, Int.toNat_natCast, hex_cut k hk]
/-- The way back from a digest's own text. -/
theorem bytesOf_strOf (b : List Nat) (h : Sha.Bytes b) : bytesOf (strOf b) = b := by
  unfold bytesOf strOf
  simp only [List.map_map]
  apply List.ext_getElem (by simp)
  intro i h1 h2
  simp only [List.getElem_map, Function.comp]
  exact UInt8.toNat_ofNat_of_lt' (h _ (List.getElem_mem h2))
theorem hexTo_bytes (l : List Nat) (hb : Sha.Bytes l) (k : Nat) : Sha.Bytes (hexTo l k) := by
  induction k with
  | zero => intro x hx; simp [hexTo] at hx
  | succ k ih => exact (ih.append (Sha.Bytes.one (hexd_lt _ (hi4_lt _ (hb.at k))))).append (Sha.Bytes.one (hexd_lt _ (lo4_lt _)))
theorem hexTo_nth (l : List Nat) (n k : Nat) (h : k < n) : Sha.nth (hexTo l n) (2 * k) = hexd (hi4 (Sha.nth l k)) ∧ Sha.nth (hexTo l n) (2 * k + 1) = hexd (lo4 (Sha.nth l k)) := by
  induction n with
  | zero => omega
  | succ n ih =>
    by_cases hk : k = n
    · subst hk
      unfold hexTo
      constructor
      · rw [Sha.nth_append_left (by simp [hexTo_length]), Sha.nth_append_right (by rw [hexTo_length]; omega), hexTo_length, Nat.sub_self]; rfl
      · rw [Sha.nth_append_right (by simp [hexTo_length])]
        simp only [List.length_append, hexTo_length, List.length_singleton, Nat.sub_self]; rfl
    · obtain ⟨i1, i2⟩ := ih (by omega)
      unfold hexTo
      constructor
      · rw [Sha.nth_append_left (by simp [hexTo_length]; omega), Sha.nth_append_left (by rw [hexTo_length]; omega)]; exact i1
      · rw [Sha.nth_append_left (by simp [hexTo_length]; omega), Sha.nth_append_left (by rw [hexTo_length]; omega)]; exact i2
end Go.Proofs.Ytlbfcneboaihnaa
