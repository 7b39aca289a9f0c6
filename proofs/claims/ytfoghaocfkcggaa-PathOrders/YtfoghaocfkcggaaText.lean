/- The code's Text: bytes as digits. -/
import Derived.Test.YtfoghaocfkcggaaLen
namespace Go.Proofs.Ytfoghaocfkcggaa
open Go.RowKit Go.Great

theorem len_n (n : Nat) (h : n ≤ 16777216) (w : World) : Calls Try.prog 41 #[.int .i64 (n : Int)] w fun e w' => e = .returned (.int .i64 ((Sha.lenOf n : Nat) : Int)) ∧ w' = w := by
  rw [← lenI_nat n h]; exact len_any n w
def digS : ByteArray := ⟨#[48, 49, 50, 51, 52, 53, 54, 55, 56, 57, 97, 98, 99, 100, 102, 103, 104, 105, 106, 107, 108, 109, 110, 112, 113, 114, 115, 118, 119, 120, 121, 122]⟩
theorem dig_byte (k : Nat) (hk : k < 32) : digS[k]?.map UInt8.toNat = some (Sha.dg k) := by
  have : ∀ k : Fin 32, digS[k.val]?.map UInt8.toNat = some (Sha.dg k.val) := by decide
  exact this ⟨k, hk⟩
def digIx (v : Value) : Sem Value := Instr.index 9 (.string digS) v
@[go_sem] theorem index_digIx (v : Value) : Instr.index 9 (.string ⟨#[48, 49, 50, 51, 52, 53, 54, 55, 56, 57, 97, 98, 99, 100, 102, 103, 104, 105, 106, 107, 108, 109, 110, 112, 113, 114, 115, 118, 119, 120, 121, 122]⟩) v = digIx v := rfl
@[go_sem] theorem run_digIx (w : World) (K : IntKind) (k : Nat) (hk : k < 32) : (digIx (.int K (k : Int))).run Try.prog w = .ok (.int .u8 ((Sha.dg k : Nat) : Int)) w := by
  have h := dig_byte k hk
  unfold digIx
  cases e : digS[k]? with
  | none => simp [e] at h
  | some b =>
    simp [e] at h
    simp only [Instr.index, asIntOf, Sem.run_bind, Sem.run_pure, Result.andThen_ok, run_underlying Try.underlying9, Int.natCast_nonneg, if_true, Int.toNat_natCast, e, h]
theorem or_step (N d h k c : Nat) (h1 : h < 5) (hk : 5 * d + h = 8 * k) (hc : Sha.W N (8 * k) 8 = c) :
    bits .or .u32 ((Sha.W N (5 * d) h : Nat) : Int) ((c : Int) * 2 ^ h % 4294967296) = ((Sha.W N (5 * d) (h + 8) : Nat) : Int) := by
  have h2 : 2 ^ h ≤ 2 ^ 4 := Nat.pow_le_pow_right (by omega) (by omega)
  have h3 := Sha.W_lt N (5 * d) h
  have h4 : c < 256 := by rw [← hc]; exact Sha.W_lt N (8 * k) 8
  have h5 : c * 2 ^ h ≤ 255 * 2 ^ 4 := Nat.mul_le_mul (by omega) h2
  have e : ((c : Int) * 2 ^ h % 4294967296) = ((c * 2 ^ h : Nat) : Int) := by
    have e1 : ((c : Int) * 2 ^ h) = ((c * 2 ^ h : Nat) : Int) := by push_cast; rfl
    rw [e1]; generalize c * 2 ^ h = y at *; omega
  rw [e, u32_or_nat _ _ (by omega) (by omega), ← hc, ← hk, Sha.W_or]
theorem and_step (N d h : Nat) (h5 : 5 ≤ h) (hh : h ≤ 12) : bits .and .u32 ((Sha.W N (5 * d) h : Nat) : Int) 31 = ((Sha.W N (5 * d) 5 : Nat) : Int) := by
  have h2 : 2 ^ h ≤ 2 ^ 12 := Nat.pow_le_pow_right (by omega) (by omega)
  have h3 := Sha.W_lt N (5 * d) h
  have e : (31 : Int) = ((31 : Nat) : Int) := rfl
  rw [e, u32_and_nat _ _ (by omega) (by omega), show (31 : Nat) = 2 ^ 5 - 1 from rfl, Nat.and_two_pow_sub_one_eq_mod, Sha.W_low _ _ _ _ h5]
theorem shr_step (N d h : Nat) : ((Sha.W N (5 * d) (h + 5) : Nat) : Int) / 32 = ((Sha.W N (5 * (d + 1)) h : Nat) : Int) := by
  have e := Sha.W_high N (5 * d) (h + 5) 5 (by omega)
  rw [show 5 * (d + 1) = 5 * d + 5 by omega, show h = h + 5 - 5 by omega, ← e, show h + 5 - 5 + 5 = h + 5 by omega]
  generalize Sha.W N (5 * d) (h + 5) = y
  omega
theorem W_last (N d h k : Nat) (hk : 5 * d + h = 8 * k) (hh : h ≤ 5) (hN : N < 2 ^ (8 * k)) : Sha.W N (5 * d) h = Sha.W N (5 * d) 5 := by
  rw [Sha.W_small N (5 * d) h 5 (by rw [hk]; exact hN) hh]
set_option maxRecDepth 20000 in
set_option maxHeartbeats 1000000 in
theorem text_some (g o n cap : Nat) (b : List Nat) (w : World) (hn : b.length = n) (hv : BytesAt w (.slice (some ⟨g, o, none⟩) n cap) b) (hb : Sha.Bytes b) (h0 : 0 < n) (hmax : n ≤ 600) :
    Calls Try.prog 28 #[.slice (some ⟨g, o, none⟩) n cap] w fun e w' => e = .returned (.string (strOf (Sha.textOf b))) ∧ Below w.heap.size w w' := by
  obtain ⟨N, hN⟩ : ∃ N, N = Sha.num b := ⟨_, rfl⟩
  obtain ⟨L, hL⟩ : ∃ L, L = Sha.lenOf n := ⟨_, rfl⟩
  obtain ⟨F, hF⟩ : ∃ F : Nat → List Nat, F = Sha.part L N := ⟨_, rfl⟩
  have hF0 : E8 (zs L) = E8 (F 0) := by rw [hF, Sha.part_zero]; rfl
  have HFl : Hid (∀ d, (F d).length = L) := fun d => by rw [hF]; exact Sha.part_length _ _ _
  have HFs : Hid (∀ d x, d < L → x = Sha.W N (5 * d) 5 → (F d).set (L - 1 - d) (Sha.dg x) = F (d + 1)) := fun d x hd hx => by rw [hF]; exact Sha.part_set _ _ _ _ hd hx
  have HFe : Hid (Sha.textOf b = F L) := by unfold Sha.textOf; rw [hF, hn, ← hL, ← hN]; exact rfl
  have HB : Hid (∀ k, Sha.W N (8 * k) 8 = Sha.nth b k) := fun k => by rw [hN]; exact Sha.num_byte hb k
  have HC : Hid (∀ k, k < n → w.cell? ⟨g, o + k, none⟩ = some (.int .u8 ((Sha.nth b k : Nat) : Int))) := fun k hk => by
    obtain ⟨a, c, e, hc, hx⟩ := hv
    obtain ⟨g', o', ea, hl, hcell⟩ := hx (by omega)
    cases e; cases ea
    exact hcell k (by omega)
  have hg : g < w.heap.size := by
    obtain ⟨a, c, e, hc, hx⟩ := hv
    obtain ⟨g', o', ea, hl, hcell⟩ := hx (by omega)
    cases e; cases ea
    exact hl
  have HNs : Hid (N < 2 ^ (8 * n)) := by rw [hN, ← hn]; exact Sha.num_lt hb
  have hL1 : 8 * n ≤ 5 * L := by rw [hL]; exact Sha.lenOf_le n
  have hL2 : 5 * L ≤ 8 * n + 4 := by rw [hL]; unfold Sha.lenOf; omega
  have hLm : (L : Int) ≤ 65536 := by omega
  have HF0 := hide hF0
  have HLe := hide hL
  clear hF hN hv hF0 hL
  have HM : Hid (∀ c ∈ b, c < 256) := hb
  clear hb
  have hd : decide ((16777216 : Int) < (n : Int)) = false := by simp; omega
  go_enter Try.func28, Try.ntmps28
  go_wp2_with (go_at_call 41; refine (len_n n (by omega) _).mono ?_; rintro e w' ⟨rfl, hw'⟩; rw [hw', ← unhide HLe]; clear hw' w')
  go_loopw [4, 5, 6, 20] (fun vp vb vh vi wr => ∃ k d h P m : Nat, k ≤ n ∧ h < 5 ∧ 5 * d + h = 8 * k ∧ P + d = L ∧ vp = .int .i64 (P : Int) ∧ vb = .int .u32 ((Sha.W N (5 * d) h : Nat) : Int) ∧ vh = .int .i64 (h : Int) ∧ vi = .int .i64 (k : Int) ∧ wr = (w.alloc (.cells (E8 (F d)) 5)).drewN m) (fun _ _ _ vi _ => n - (intOf vi).toNat)
  case atStart => exact ⟨0, 0, 0, L, 0, by omega, by omega, by omega, by omega, rfl, by rw [Sha.W_zero]; rfl, rfl, rfl, by rw [unhide HF0]; rfl⟩
  case round =>
    obtain ⟨k, d, h, P, m, hk, hh, hdk, hP, rfl, rfl, rfl, rfl, rfl⟩ := hrel
    by_cases hlt : k < n
    · have hc := unhide HC k hlt
      have hB := hide (unhide HB k)
      have hx : Hid (Sha.nth b k < 256) := Sha.Bytes.at (unhide HM) k
      generalize hX : Sha.nth b k = x at *
      clear hX
      go_wp2
      go_loopw [4, 5, 6] (fun vp vb vh wr => ∃ d h P m : Nat, h ≤ 12 ∧ 5 * d + h = 8 * (k + 1) ∧ P + d = L ∧ vp = .int .i64 (P : Int) ∧ vb = .int .u32 ((Sha.W N (5 * d) h : Nat) : Int) ∧ vh = .int .i64 (h : Int) ∧ wr = (w.alloc (.cells (E8 (F d)) 5)).drewN m) (fun _ _ vh _ => (intOf vh).toNat)
      case atStart =>
        have hxm : (x : Int) % 4294967296 = (x : Int) := by have := unhide hx; omega
        refine ⟨d, h + 8, P, m, by omega, by omega, hP, rfl, ?_, by go_num, rfl⟩
        rw [hxm, ← or_step N d h k x hh hdk (unhide hB)]
      case round =>
        clear hdk hh hP
        obtain ⟨d, h, P, m, hh, hdk, hP, rfl, rfl, rfl, rfl⟩ := hrel
        by_cases h5 : 5 ≤ h
        · obtain ⟨h, rfl⟩ : ∃ q, h = q + 5 := ⟨h - 5, by omega⟩
          obtain ⟨P, rfl⟩ : ∃ q, P = q + 1 := ⟨P - 1, by omega⟩
          have hand := and_step N d (h + 5) (by omega) (by omega)
          have hshr := shr_step N d h
          have hlt5 : Sha.W N (5 * d) 5 < 32 := Sha.W_lt N (5 * d) 5
          have hset := hide (unhide HFs d _ (by omega) rfl)
          have hfl := unhide HFl d
          rw [show L - 1 - d = P by omega] at hset
          have hPL : P < L := by omega
          generalize Sha.W N (5 * d) 5 = D at *
          go_wp2
          go_roundw
          case rel => exact ⟨d + 1, h, P, m, by omega, by omega, by omega, rfl, rfl, rfl, by rw [unhide hset]⟩
          case measure => simp [intOf]; omega
        · have h5' : h < 5 := by omega
          go_wp2
          go_roundw
          case rel => exact ⟨k + 1, d, h, P, m, by omega, h5', hdk, hP, rfl, rfl, rfl, by go_num, rfl⟩
          case measure => simp [intOf]; omega
    · obtain rfl : k = n := by omega
      have hfl := unhide HFl d
      by_cases hz : 0 < h
      · have hWs := W_last N d h k hdk (by omega) (unhide HNs)
        have hlt5 : Sha.W N (5 * d) 5 < 32 := Sha.W_lt N (5 * d) 5
        have hset := hide (unhide HFs d _ (by omega) rfl)
        rw [show L - 1 - d = 0 by omega, show d + 1 = L by omega] at hset
        rw [hWs]
        have hL0 : 0 < L := by omega
        generalize Sha.W N (5 * d) 5 = D at *
        clear hWs
        have hconv : ∀ m', (convert 52 9 (.slice (some ⟨w.heap.size, 0, none⟩) L L)).run Try.prog ((w.alloc (.cells (E8 ((F d).set 0 (Sha.dg D))) 5)).drewN m') = .ok (.string (strOf (F L))) ((w.alloc (.cells (E8 ((F d).set 0 (Sha.dg D))) 5)).drewN m') := fun m' => by
          rw [unhide hset]
          exact conv_row _ _ _ _ _ (by rw [rowOf_drewN]; exact rowOf_alloc_at _ _ _ _ rfl) (unhide HFl L) hL0
        go_wp2
        go_ret
        exact ⟨by rw [unhide HFe]; rfl, below_drews ((Below.refl _ _).alloc (Nat.le_refl _) _) _⟩
      · obtain rfl : h = 0 := by omega
        have hL0 : 0 < L := by omega
        obtain rfl : d = L := by omega
        have hconv : ∀ m', (convert 52 9 (.slice (some ⟨w.heap.size, 0, none⟩) d d)).run Try.prog ((w.alloc (.cells (E8 (F d)) 5)).drewN m') = .ok (.string (strOf (F d))) ((w.alloc (.cells (E8 (F d)) 5)).drewN m') := fun m' =>
          conv_row _ _ _ _ _ (by rw [rowOf_drewN]; exact rowOf_alloc_at _ _ _ _ rfl) (unhide HFl d) hL0
        go_wp2
        go_ret
        exact ⟨by rw [unhide HFe]; rfl, below_drews ((Below.refl _ _).alloc (Nat.le_refl _) _) _⟩
set_option maxRecDepth 20000 in
set_option maxHeartbeats 400000 in
theorem text_none (a : Option Addr) (cap : Nat) (w : World) : Calls Try.prog 28 #[.slice a 0 cap] w fun e w' => e = .returned (.string (strOf (Sha.textOf []))) ∧ Below w.heap.size w w' := by
  have hconv : ∀ W : World, (convert 52 9 (.slice (some ⟨w.heap.size, 0, none⟩) 0 0)).run Try.prog W = .ok (.string (strOf (Sha.textOf []))) W := fun W => by
    rw [run_convert_bytes_string W 52 9 5 _ _ _ Try.underlying52 Try.underlying5 Try.underlying9, run_bytesToString W _ 0 0 [] rfl]; rfl
  go_enter Try.func28, Try.ntmps28
  go_wp2_with (go_at_call 41; refine (len_n 0 (by omega) _).mono ?_; rintro e w' ⟨rfl, hw'⟩; rw [hw', show Sha.lenOf 0 = 0 from rfl]; clear hw' w')
  go_loopw [4, 5, 6, 20] (fun vp vb vh vi wr => vh = .int .i64 0 ∧ vi = .int .i64 0 ∧ wr = w.alloc (.cells (E8 (zs 0)) 5)) (fun _ _ _ _ _ => 0)
  case atStart => exact ⟨rfl, rfl, rfl⟩
  case round =>
    obtain ⟨rfl, rfl, rfl⟩ := hrel
    go_wp2
    go_ret
    exact ⟨rfl, (Below.refl _ _).alloc (Nat.le_refl _) _⟩
theorem text_any (a : Option Addr) (n cap : Nat) (b : List Nat) (w : World) (hn : b.length = n) (hv : BytesAt w (.slice a n cap) b) (hb : Sha.Bytes b) (hmax : n ≤ 600) :
    Calls Try.prog 28 #[.slice a n cap] w fun e w' => e = .returned (.string (strOf (Sha.textOf b))) ∧ Below w.heap.size w w' := by
  subst hn
  by_cases h0 : 0 < b.length
  · obtain ⟨g, o, rfl⟩ : ∃ g o, a = some ⟨g, o, none⟩ := by
      obtain ⟨a', c, e, hc, hx⟩ := hv
      obtain ⟨g, o, ea, hl, hcell⟩ := hx h0
      cases e; exact ⟨g, o, ea⟩
    exact text_some g o _ cap b w rfl hv hb h0 hmax
  · obtain rfl : b = [] := List.eq_nil_of_length_eq_zero (by omega)
    exact text_none a cap w
end Go.Proofs.Ytfoghaocfkcggaa
