/- The document's own Hex. -/
import Derived.Test.YtfoghaocfkcggaaStrs
namespace Go.Proofs.Ytfoghaocfkcggaa
open Go.RowKit Go.Great
attribute [local go_sem] f_8 f_1024 f_hi4 f_lo4

theorem wrap_u8' (n : Int) (h0 : 0 ≤ n) (h : n < 256) : IntKind.u8.wrap n = n := by rw [IntKind.wrap_u8]; omega
theorem wrap_u8 (n : Nat) (h : n < 256) : IntKind.u8.wrap (n : Int) = (n : Int) := wrap_u8' _ (by omega) (by omega)
@[go_sem] theorem strOf_size (l : List Nat) : (strOf l).size = l.length := by simp [strOf, ByteArray.size]
theorem strOf_append (a b : List Nat) : strOf a ++ strOf b = strOf (a ++ b) := by
  apply ByteArray.ext
  simp [ByteArray.data_append, strOf]
def hexS : ByteArray := ⟨#[48, 49, 50, 51, 52, 53, 54, 55, 56, 57, 97, 98, 99, 100, 101, 102]⟩
def hexSl (lo hi mx : Option Value) : Sem Value := Instr.sliceAt 9 (.string hexS) lo hi mx
@[go_sem] theorem sliceAt_hexS (lo hi mx : Option Value) : Instr.sliceAt 9 (.string ⟨#[48, 49, 50, 51, 52, 53, 54, 55, 56, 57, 97, 98, 99, 100, 101, 102]⟩) lo hi mx = hexSl lo hi mx := rfl
theorem hex_cut (k : Nat) (hk : k < 16) : hexS.extract k (k + 1) = strOf [hexd k] := by
  have : ∀ k : Fin 16, hexS.extract k.val (k.val + 1) = strOf [hexd k.val] := by decide +kernel
  exact this ⟨k, hk⟩
@[go_sem] theorem run_hexSl (w : World) (k : Nat) (hk : k < 16) : (hexSl (some (.int .u8 (k : Int))) (some (.int .u8 ((k : Int) + 1))) none).run Try.prog w = .ok (.string (strOf [hexd k])) w := by
  unfold hexSl
  rw [run_sliceAt_string w 9 _ _ _ _ Try.underlying9, run_slice_string w 9 hexS .u8 .u8 (k : Int) ((k : Int) + 1) Try.underlying9 (by omega) (by omega) (by show (k : Int) + 1 ≤ 16; omega)]
  rw [show ((k : Int) + 1).toNat = k + 1 by omega, Int.toNat_natCast, hex_cut k hk]
set_option maxRecDepth 20000 in
set_option maxHeartbeats 1000000 in
theorem hexRef_any (l : List Nat) (w : World) (hl : l.length = 32) (hb : Sha.Bytes l) :
    Calls Try.prog 31 #[.agg (E8 l)] w fun e w' => e = .returned (.string (strOf (hexTo l 32))) ∧ Below w.heap.size w w' := by
  obtain ⟨S, hS⟩ : ∃ S : Nat → ByteArray, S = fun k => strOf (hexTo l k) := ⟨_, rfl⟩
  have HE : Hid (strOf (hexTo l 32) = S 32) := by rw [hS]; exact rfl
  generalize strOf (hexTo l 32) = R at *
  have h0 : (⟨#[]⟩ : ByteArray) = S 0 := by rw [hS]; rfl
  have H0 := hide h0
  have HS : Hid (∀ k, S k ++ strOf [hexd (hi4 (Sha.nth l k))] ++ strOf [hexd (lo4 (Sha.nth l k))] = S (k + 1)) := fun k => by
    rw [hS]; simp only
    rw [strOf_append, strOf_append]; rfl
  have hSz : ∀ k, (S k).size = 2 * k := fun k => by rw [hS]; simp only; rw [strOf_size, hexTo_length]
  clear hS h0
  go_enter Try.func31, Try.ntmps31
  go_wp2
  go_loopw [3, 4] (fun v c wr => ∃ k n : Nat, k ≤ 32 ∧ c = .int .i64 (k : Int) ∧ v = .string (S k) ∧ wr = (w.alloc (.cells (E8 l) 25)).drewN n) (fun _ c _ => 32 - (intOf c).toNat)
  case atStart => exact ⟨0, 0, by omega, rfl, by rw [← unhide H0], rfl⟩
  case round =>
    obtain ⟨k, n, hk, rfl, rfl, rfl⟩ := hrel
    by_cases hlt : k < 32
    · have hx := hb.at k
      generalize hX : Sha.nth l k = x at *
      have hsk := hSz k
      have hn1 : ¬ (9223372036854775807 < 2 * k + 1) := by omega
      have hn2 : ¬ (9223372036854775807 < 2 * k + 1 + 1) := by omega
      have HSk := hide (unhide HS k)
      rw [hX] at HSk
      clear hSz
      have hh1 := hi4_lt x hx
      have hh2 := lo4_lt x
      have hw1 : IntKind.u8.wrap ((hi4 x : Nat) : Int) = ((hi4 x : Nat) : Int) := wrap_u8 _ (by omega)
      have hw2 : IntKind.u8.wrap (((hi4 x : Nat) : Int) + 1) = ((hi4 x : Nat) : Int) + 1 := wrap_u8' _ (by omega) (by omega)
      have hw3 : IntKind.u8.wrap ((lo4 x : Nat) : Int) = ((lo4 x : Nat) : Int) := wrap_u8 _ (by omega)
      have hw4 : IntKind.u8.wrap (((lo4 x : Nat) : Int) + 1) = ((lo4 x : Nat) : Int) + 1 := wrap_u8' _ (by omega) (by omega)
      go_wp2
      go_quiet (fail)
      go_wp2
      go_roundw
      case rel => exact ⟨k + 1, n + nq, by omega, by go_num, by rw [unhide HSk], rfl⟩
      case measure => simp [intOf]; omega
    · have hk' : k = 32 := by omega
      subst hk'
      clear hSz
      go_wp2
      go_ret
      exact ⟨by rw [unhide HE]; rfl, below_drews ((Below.refl _ _).alloc (Nat.le_refl _) _) _⟩

/-- The way back from a digest's own text. -/
theorem bytesOf_strOf (b : List Nat) (h : Sha.Bytes b) : bytesOf (strOf b) = b := by
  unfold bytesOf strOf
  simp only [List.map_map]
  apply List.ext_getElem (by simp)
  intro i h1 h2
  simp only [List.getElem_map, Function.comp]
  exact UInt8.toNat_ofNat_of_lt' (h _ (List.getElem_mem h2))
theorem hexTo_bytes (l : List Nat) (hb : Sha.Bytes l) (k : Nat) : Sha.Bytes (hexTo l k) := by
  induction k with
  | zero => intro x hx; simp [hexTo] at hx
  | succ k ih => exact (ih.append (Sha.Bytes.one (hexd_lt _ (hi4_lt _ (hb.at k))))).append (Sha.Bytes.one (hexd_lt _ (lo4_lt _)))
theorem hexTo_nth (l : List Nat) (n k : Nat) (h : k < n) : Sha.nth (hexTo l n) (2 * k) = hexd (hi4 (Sha.nth l k)) ∧ Sha.nth (hexTo l n) (2 * k + 1) = hexd (lo4 (Sha.nth l k)) := by
  induction n with
  | zero => omega
  | succ n ih =>
    by_cases hk : k = n
    · subst hk
      unfold hexTo
      constructor
      · rw [Sha.nth_append_left (by simp [hexTo_length]), Sha.nth_append_right (by rw [hexTo_length]; omega), hexTo_length, Nat.sub_self]; rfl
      · rw [Sha.nth_append_right (by simp [hexTo_length])]
        simp only [List.length_append, hexTo_length, List.length_singleton, Nat.sub_self]; rfl
    · obtain ⟨i1, i2⟩ := ih (by omega)
      unfold hexTo
      constructor
      · rw [Sha.nth_append_left (by simp [hexTo_length]; omega), Sha.nth_append_left (by rw [hexTo_length]; omega)]; exact i1
      · rw [Sha.nth_append_left (by simp [hexTo_length]; omega), Sha.nth_append_left (by rw [hexTo_length]; omega)]; exact i2
end Go.Proofs.Ytfoghaocfkcggaa
