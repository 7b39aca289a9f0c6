/- strconv.Itoa, the library's own contract, laid at this program, in plain words; the document's Dec. -/
import Derived.Shelf.Strconv.Itoa3
import Derived.Test.YtlbfcneboaihnaaGreatDoorSam
namespace Go.Proofs.YtlbfcneboaihnaaGreatDoor
open Go.Shelf
def lays171_ren : Go.Shelf.Ren := ⟨fun | 171 => 16 | 243 => 36 | 246 => 61 | 283 => 79 | 284 => 80 | 285 => 81 | 286 => 82 | 129 => 91 | 317 => 90 | 318 => 92 | 319 => 93 | 320 => 94 | 337 => 109 | 338 => 110 | n => n, fun | 3 => 3 | 9 => 9 | 2 => 2 | 4 => 4 | 171 => 139 | 0 => 0 | 53 => 97 | 37 => 22 | 5 => 5 | 173 => 142 | 212 => 151 | 51 => 67 | 20 => 20 | 213 => 152 | 46 => 98 | 232 => 24 | 233 => 69 | n => n, fun | 17 => 1 | 18 => 2 | 19 => 3 | n => n⟩
theorem lays171 : Go.Proofs.LaysM.n171 Tryz.prog lays171_ren := {
  mixed := by kernel_rfl
  f129 := Tryz.func91.trans (congrArg some (by kernel_rfl))
  f171 := Tryz.func16.trans (congrArg some (by kernel_rfl))
  f243 := Tryz.func36.trans (congrArg some (by kernel_rfl))
  f246 := Tryz.func61.trans (congrArg some (by kernel_rfl))
  f283 := Tryz.func79.trans (congrArg some (by kernel_rfl))
  f284 := Tryz.func80.trans (congrArg some (by kernel_rfl))
  f285 := Tryz.func81.trans (congrArg some (by kernel_rfl))
  f286 := Tryz.func82.trans (congrArg some (by kernel_rfl))
  f317 := Tryz.func90.trans (congrArg some (by kernel_rfl))
  f318 := Tryz.func92.trans (congrArg some (by kernel_rfl))
  f319 := Tryz.func93.trans (congrArg some (by kernel_rfl))
  f320 := Tryz.func94.trans (congrArg some (by kernel_rfl))
  f337 := Tryz.func109.trans (congrArg some (by kernel_rfl))
  f338 := Tryz.func110.trans (congrArg some (by kernel_rfl))
  t0 := Tryz.underlying0
  a0 := Tryz.isAgg0
  z0 := Tryz.sizeOf0
  v0 := Tryz.zeroValue0
  t2 := Tryz.underlying2
  a2 := Tryz.isAgg2
  z2 := Tryz.sizeOf2
  v2 := Tryz.zeroValue2
  t3 := Tryz.underlying3
  a3 := Tryz.isAgg3
  z3 := Tryz.sizeOf3
  v3 := Tryz.zeroValue3
  t4 := Tryz.underlying4
  a4 := Tryz.isAgg4
  z4 := Tryz.sizeOf4
  v4 := Tryz.zeroValue4
  t5 := Tryz.underlying5
  a5 := Tryz.isAgg5
  z5 := Tryz.sizeOf5
  v5 := Tryz.zeroValue5
  t9 := Tryz.underlying9
  a9 := Tryz.isAgg9
  z9 := Tryz.sizeOf9
  v9 := Tryz.zeroValue9
  t20 := Tryz.underlying20
  a20 := Tryz.isAgg20
  z20 := Tryz.sizeOf20
  v20 := Tryz.zeroValue20
  t37 := Tryz.underlying22
  a37 := Tryz.isAgg22
  z37 := Tryz.sizeOf22
  v37 := Tryz.zeroValue22
  t46 := Tryz.underlying98
  a46 := Tryz.isAgg98
  z46 := Tryz.sizeOf98
  v46 := Tryz.zeroValue98
  t51 := Tryz.underlying67
  a51 := Tryz.isAgg67
  z51 := Tryz.sizeOf67
  v51 := Tryz.zeroValue67
  t53 := Tryz.underlying97
  a53 := Tryz.isAgg97
  z53 := Tryz.sizeOf97
  v53 := Tryz.zeroValue97
  t171 := Tryz.underlying139
  a171 := Tryz.isAgg139
  z171 := Tryz.sizeOf139
  v171 := Tryz.zeroValue139
  t173 := Tryz.underlying142
  a173 := Tryz.isAgg142
  z173 := Tryz.sizeOf142
  v173 := Tryz.zeroValue142
  t212 := Tryz.underlying151
  a212 := Tryz.isAgg151
  z212 := Tryz.sizeOf151
  v212 := Tryz.zeroValue151
  t213 := Tryz.underlying152
  a213 := Tryz.isAgg152
  z213 := Tryz.sizeOf152
  t232 := Tryz.underlying24
  a232 := Tryz.isAgg24
  z232 := Tryz.sizeOf24
  v232 := Tryz.zeroValue24
  t233 := Tryz.underlying69
  a233 := Tryz.isAgg69
  z233 := Tryz.sizeOf69
  v233 := Tryz.zeroValue69
  g17 := by kernel_rfl
  g18 := by kernel_rfl
  g19 := by kernel_rfl
  i0 := by kernel_rfl
  i2 := by kernel_rfl
  i3 := by kernel_rfl
  i4 := by kernel_rfl
  i5 := by kernel_rfl
  i9 := by kernel_rfl
  i20 := by kernel_rfl
  i37 := by kernel_rfl
  i46 := by kernel_rfl
  i51 := by kernel_rfl
  i53 := by kernel_rfl
  i171 := by kernel_rfl
  i173 := by kernel_rfl
  i212 := by kernel_rfl
  i232 := by kernel_rfl
  i233 := by kernel_rfl
  m17 := by kernel_rfl
  m18 := by kernel_rfl
  m19 := by kernel_rfl }
open Go.RowKit Go.Great
/-- The table that Itoa reads. -/
def Pow (w : World) : Prop := Lib.TabIs Tryz.prog w "internal/strconv.uint64pow10" .u64 Lib.pow10Tab
theorem pow_below {w w' : World} (h : Pow w) (hb : Below w.heap.size w w') : Pow w' := by
  unfold Pow Lib.TabIs World.var? at h ⊢
  cases hg : Tryz.prog.globalNamed "internal/strconv.uint64pow10" with
  | none => rw [hg] at h; cases h
  | some g =>
    rw [hg] at h
    simp only [Option.bind_some] at h ⊢
    rcases Nat.lt_or_ge g w.heap.size with hl | hl
    · rw [hb.block g hl]; exact h
    · rw [Array.getElem?_eq_none hl] at h; cases h
/-- A number's digits, as bytes. -/
def decL (n : Nat) : List Nat := natsOf (Lib.decDigits n)
theorem decL_bytes (n : Nat) : Sha.Bytes (decL n) := natsOf_bytes _
theorem strOf_decL (n : Nat) : strOf (decL n) = ⟨(Lib.decDigits n).toArray⟩ := strOf_nats _
theorem decL_small {n : Nat} (h : n < 10) : decL n = [48 + n] := by
  unfold decL; rw [Lib.decDigits, dif_pos h]
  simp [natsOf]; omega
theorem decL_step {n : Nat} (h : ¬ n < 10) : decL n = decL (n / 10) ++ [48 + n % 10] := by
  unfold decL
  conv => lhs; rw [Lib.decDigits, dif_neg h]
  have : (48 + n % 10) % 256 = 48 + n % 10 := by omega
  simp [natsOf, this]
theorem itoa_any (n : Nat) (hn : n ≤ 1000000) (w : World) (hp : Pow w) : Calls Tryz.prog 16 #[.int .i64 (n : Int)] w fun e w' => e = .returned (.string (strOf (decL n))) ∧ Below w.heap.size w w' := by
  refine (Any.strconv_Itoa (P := Tryz.prog) (ρ := lays171_ren) lays171 (n : Int) (by omega) (by omega) w hp).mono fun e w' ⟨he, k, os, hw⟩ => ⟨?_, ?_⟩
  · rw [he, strOf_decL]
    have e1 : Lib.itoa (n : Int) = Lib.decDigits n := by unfold Lib.itoa; rw [if_neg (by omega)]; simp
    rw [e1]
  · rw [hw]
    exact below_grow (B := w.heap.size) (w0 := w) (w := w.drewN k) ⟨rfl, rfl, rfl, Nat.le_refl _, fun _ _ => rfl⟩ (Nat.le_refl _) os
theorem decL_len (n : Nat) (h : n ≤ 1000000) : (decL n).length ≤ 7 := by
  have key : ∀ k n, n < 10 ^ (k + 1) → (decL n).length ≤ k + 1 := by
    intro k
    induction k with
    | zero => intro n h; rw [decL_small (by simpa using h)]; simp
    | succ k ih =>
      intro n h
      by_cases h10 : n < 10
      · rw [decL_small h10]; simp
      · rw [decL_step h10, List.length_append]
        have := ih (n / 10) (by rw [Nat.pow_succ] at h; omega)
        simp; omega
  exact key 6 n (by have : (10 : Nat) ^ (6 + 1) = 10000000 := by decide
                    omega)
theorem strOf_cat (a b : List Nat) : strOf a ++ strOf b = strOf (a ++ b) := by
  apply ByteArray.ext
  unfold strOf
  simp
set_option maxRecDepth 20000 in
set_option maxHeartbeats 1000000 in
theorem decRef_any (n : Nat) (hn : n ≤ 1000000) (w : World) : Calls Tryz.prog 21 #[.int .i64 (n : Int)] w fun e w' => e = .returned (.string (strOf (decL n))) ∧ Below w.heap.size w w' := by
  go_enter Tryz.func21, Tryz.ntmps21
  go_wp2_with fail
  go_loopw [0, 3] (fun vv vs wr => ∃ (m : Nat) (S : List Nat), m ≤ 1000000 ∧ vv = .int .i64 (m : Int) ∧ vs = .string (strOf S) ∧ Hid (decL n = decL m ++ S) ∧ Hid (Below w.heap.size w wr)) (fun vv _ _ => (intOf vv).toNat)
  case atStart => exact ⟨n, [], hn, rfl, rfl, (List.append_nil _).symm, Below.refl _ _⟩
  case round =>
    obtain ⟨m, S, hm, rfl, rfl, HS, HB⟩ := hrel
    obtain ⟨d, hd⟩ : ∃ d : Nat, m % 10 = d := ⟨_, rfl⟩
    obtain ⟨q, hq⟩ : ∃ q : Nat, m / 10 = q := ⟨_, rfl⟩
    have hd1 : (m : Int) % 10 = (d : Int) := by omega
    have hq1 : (m : Int) / 10 = (q : Int) := by omega
    have hd10 : d < 10 := by omega
    have hcv := conv_at (wr.alloc (.cells #[.int .u8 ((48 + d : Nat) : Int)] 5)) _ _ (one_at wr (48 + d))
    have hcat := strOf_cat [48 + d] S
    have hSl : S.length ≤ 7 := by
      have h1 := decL_len n hn
      rw [unhide HS, List.length_append] at h1
      omega
    have hz := (unhide HB).size
    have HB' : Hid (Below w.heap.size w (wr.alloc (.cells #[.int .u8 ((48 + d : Nat) : Int)] 5))) := (unhide HB).alloc hz _
    have e48 : ((48 + d : Nat) : Int) = 48 + (d : Int) := by omega
    rw [e48, List.length_singleton] at hcv
    rw [e48] at HB'
    by_cases h10 : m < 10
    · have HE : Hid (decL n = [48 + d] ++ S) := by
        have := unhide HS
        rwa [decL_small h10, show m = d by omega] at this
      have hq0 : q = 0 := by omega
      subst hq0
      go_wp2_with fail
      go_ret
      exact ⟨by rw [unhide HE]; rfl, unhide HB'⟩
    · have HE : Hid (decL n = decL q ++ ([48 + d] ++ S)) := by
        have := unhide HS
        rwa [decL_step h10, hd, hq, List.append_assoc] at this
      have hq0 : ¬ (q = 0) := by omega
      have hqm : q < m := by omega
      go_wp2_with fail
      exact ⟨⟨q, [48 + d] ++ S, by omega, rfl, rfl, HE, HB'⟩, by simp [intOf]; omega⟩
end Go.Proofs.YtlbfcneboaihnaaGreatDoor
