/- FromHex, in the code and in the document's own answer: the same digest, the same refusals. -/
import Derived.Test.YtdkhmjiconedkaaFold
namespace Go.Proofs.Ytdkhmjiconedkaa
open Go.RowKit Go.Great

/-- Is it a digit, and what does it count? -/
def isDig (c : Nat) : Bool := decide ((48 ≤ c ∧ c ≤ 57) ∨ (97 ≤ c ∧ c ≤ 102))
def digOf (c : Nat) : Nat := if 48 ≤ c ∧ c ≤ 57 then c - 48 else if 97 ≤ c ∧ c ≤ 102 then c - 87 else 0
theorem digOf_lt (c : Nat) : digOf c < 16 := by unfold digOf; split <;> (try split) <;> omega

set_option maxHeartbeats 400000 in
theorem digitValue_any (c : Nat) (w : World) (hc : c < 256) :
    Calls Try.prog 34 #[.int .u8 (c : Int)] w fun e w' => e = .returned (.tuple #[.int .u8 ((digOf c : Nat) : Int), .bool (isDig c)]) ∧ w' = w := by
  by_cases h1 : 48 ≤ c
  · by_cases h2 : c ≤ 57
    · have e1 : digOf c = c - 48 := by unfold digOf; rw [if_pos ⟨h1, h2⟩]
      have e2 : isDig c = true := by unfold isDig; simp; omega
      rw [e1, e2]
      clear e1 e2
      go_enter Try.func34, Try.ntmps34
      go_wp2
      go_ret2
      exact ⟨by simp; omega, rfl⟩
    · by_cases h3 : 97 ≤ c
      · by_cases h4 : c ≤ 102
        · have e1 : digOf c = c - 87 := by unfold digOf; rw [if_neg (by omega), if_pos ⟨h3, h4⟩]
          have e2 : isDig c = true := by unfold isDig; simp; omega
          rw [e1, e2]
          clear e1 e2
          go_enter Try.func34, Try.ntmps34
          go_wp2
          go_ret2
          exact ⟨by simp; omega, rfl⟩
        · have e1 : digOf c = 0 := by unfold digOf; rw [if_neg (by omega), if_neg (by omega)]
          have e2 : isDig c = false := by unfold isDig; simp; omega
          rw [e1, e2]
          clear e1 e2
          go_enter Try.func34, Try.ntmps34
          go_wp2
          go_ret2
          exact ⟨rfl, rfl⟩
      · have e1 : digOf c = 0 := by unfold digOf; rw [if_neg (by omega), if_neg (by omega)]
        have e2 : isDig c = false := by unfold isDig; simp; omega
        rw [e1, e2]
        clear e1 e2
        go_enter Try.func34, Try.ntmps34
        go_wp2
        go_ret2
        exact ⟨rfl, rfl⟩
  · have e1 : digOf c = 0 := by unfold digOf; rw [if_neg (by omega), if_neg (by omega)]
    have e2 : isDig c = false := by unfold isDig; simp; omega
    rw [e1, e2]
    clear e1 e2
    go_enter Try.func34, Try.ntmps34
    go_wp2
    go_ret2
    exact ⟨rfl, rfl⟩

/-- A text's bytes as numbers. -/
def bytesOf (s : ByteArray) : List Nat := s.data.toList.map UInt8.toNat
theorem bytesOf_length (s : ByteArray) : (bytesOf s).length = s.size := by simp [bytesOf]
theorem bytesOf_bytes (s : ByteArray) : Sha.Bytes (bytesOf s) := by
  intro x hx
  obtain ⟨b, -, rfl⟩ := List.mem_map.1 hx
  exact b.toNat_lt
theorem bytesOf_get (s : ByteArray) (i : Nat) (h : i < s.size) : s[i]? = some s[i] ∧ s[i].toNat = Sha.nth (bytesOf s) i := by
  refine ⟨by simp [h], ?_⟩
  unfold Sha.nth bytesOf
  rw [List.getElem?_map, List.getElem?_eq_getElem (by simpa using h)]
  rfl
def strIx (s : ByteArray) (v : Value) : Sem Value := Instr.index 9 (.string s) v
theorem index_strIx (s : ByteArray) (v : Value) : Instr.index 9 (.string s) v = strIx s v := rfl
theorem run_strIx (w : World) (s : ByteArray) (i : Nat) (h : i < s.size) : (strIx s (.int .i64 (i : Int))).run Try.prog w = .ok (.int .u8 ((Sha.nth (bytesOf s) i : Nat) : Int)) w := by
  obtain ⟨h1, h2⟩ := bytesOf_get s i h
  unfold strIx
  simp only [Instr.index, asIntOf, Sem.run_bind, Sem.run_pure, Result.andThen_ok, run_underlying Try.underlying9, Int.natCast_nonneg, if_true, Int.toNat_natCast, h1, h2]
theorem run_strIx_i (s : ByteArray) (x : Int) (i : Nat) (hx : x = (i : Int)) (h : i < s.size) : ∀ w, (strIx s (.int .i64 x)).run Try.prog w = .ok (.int .u8 ((Sha.nth (bytesOf s) i : Nat) : Int)) w := by
  subst hx; exact fun w => run_strIx w s i h
attribute [local go_sem] index_strIx

/-- Two results, the first of which lies in a block. -/
theorem res25_pair {fn : Func} {p q : Tmp} (h : fn.results = #[.cell p 25, .tmp q]) {tmps : Array Value} {w : World} {b : Nat} (hp : tmps.getD p undef = .pointer (some ⟨b, 0, none⟩)) {c v : Value} {cs : Array Value} (hc : c = .agg cs) (hr : rowOf w b = cs) (hs : cs.size = 32) (hv : tmps.getD q undef = v) :
    (results fn tmps).run Try.prog w = .ok (.tuple #[c, v]) w := by
  subst hc hv
  have hp' : tmps[p]?.getD undef = .pointer (some ⟨b, 0, none⟩) := by simpa using hp
  have hl : (loadVar 25 ⟨b, 0, none⟩).run Try.prog w = .ok (.agg cs) w := by
    rw [← hr]; exact run_loadVar_rowOf w b 25 32 _ Try.underlying25 rfl (zero_of_info Z25_info).2 (by omega) (by rw [hr]; exact hs)
  simp [results, h, hp', asAddr, hl]
theorem E8_nib (l : List Nat) (k a b : Nat) : (E8 l).setIfInBounds k (.int .u8 (16 * (a : Int) + (b : Int))) = E8 (l.set k (16 * a + b)) := by
  rw [show (16 * (a : Int) + (b : Int)) = ((16 * a + b : Nat) : Int) by omega, E8_set]
/-- The first k bytes that the digits say. -/
def unhexTo (b : List Nat) : Nat → List Nat
  | 0 => []
  | k + 1 => unhexTo b k ++ [16 * digOf (Sha.nth b (2 * k)) + digOf (Sha.nth b (2 * k + 1))]
theorem unhexTo_length (b : List Nat) (k : Nat) : (unhexTo b k).length = k := by
  induction k with
  | zero => rfl
  | succ k ih => simp [unhexTo, ih]
/-- A text of sixty-four digits. -/
def Digits (b : List Nat) : Prop := b.length = 64 ∧ ∀ i, i < 64 → isDig (Sha.nth b i) = true

theorem or_nib (a b : Nat) (ha : a < 16) (hb : b < 16) : bits .or .u8 ((a : Int) * 16) (b : Int) = ((16 * a + b : Nat) : Int) := by
  have : ∀ a b : Fin 16, bits .or .u8 ((a.val : Int) * 16) (b.val : Int) = ((16 * a.val + b.val : Nat) : Int) := by decide
  exact this ⟨a, ha⟩ ⟨b, hb⟩

set_option maxRecDepth 20000 in
set_option maxHeartbeats 1000000 in
theorem fromHex_yes (s : ByteArray) (w : World) (h : Digits (bytesOf s)) :
    Calls Try.prog 18 #[.string s] w fun e w' => e = .returned (.tuple #[.agg (E8 (unhexTo (bytesOf s) 32)), .int .i64 0]) ∧ Below w.heap.size w w' := by
  have hsz : s.size = 64 := by rw [← bytesOf_length]; exact h.1
  have hby := bytesOf_bytes s
  obtain ⟨F, hF⟩ : ∃ F : Nat → List Nat, F = fun k => padTo 32 (unhexTo (bytesOf s) k) := ⟨_, rfl⟩
  have h0 : Z25 = E8 (F 0) := by rw [hF]; rfl
  have hlen : ∀ k, k ≤ 32 → (F k).length = 32 := fun k hk => by rw [hF]; exact padTo_length _ _ (by rw [unhexTo_length]; omega)
  have HS : Hid (∀ k, k < 32 → (F k).set k (16 * digOf (Sha.nth (bytesOf s) (2 * k)) + digOf (Sha.nth (bytesOf s) (2 * k + 1))) = F (k + 1)) := fun k hk => by
    rw [hF]; exact padTo_set 32 _ _ _ (unhexTo_length _ _) hk
  have HE : Hid (unhexTo (bytesOf s) 32 = F 32) := by rw [hF]; exact (padTo_full _ _ (unhexTo_length _ _)).symm
  generalize unhexTo (bytesOf s) 32 = R at *
  have HL := hide hlen
  have H0 := hide h0
  have HD := hide h.2
  have hne : ((64 : Int) != 64) = false := by decide
  clear hF h0 hlen h
  go_enter Try.func18, Try.ntmps18
  go_wp2
  go_loopw [14] (fun c wr => ∃ k n : Nat, k ≤ 32 ∧ c = .int .i64 (k : Int) ∧ wr = ((w.alloc (.cells Z25 25)).alloc (.cells (E8 (F k)) 25)).drewN n) (fun c _ => 32 - (intOf c).toNat)
  case atStart => exact ⟨0, 0, by omega, rfl, by rw [← unhide H0]; rfl⟩
  case round =>
    obtain ⟨k, n, hk, rfl, rfl⟩ := hrel
    have hpl := unhide HL k hk
    by_cases hlt : k < 32
    · have hd1 := unhide HD (2 * k) (by omega)
      have hd2 := unhide HD (2 * k + 1) (by omega)
      have hx1 : 2 * k < s.size := by omega
      have hx2 : 2 * k + 1 < s.size := by omega
      have hb1 := hby.at (2 * k)
      have hb2 := hby.at (2 * k + 1)
      have hg1 := digOf_lt (Sha.nth (bytesOf s) (2 * k))
      have hg2 := digOf_lt (Sha.nth (bytesOf s) (2 * k + 1))
      have hor := or_nib _ _ hg1 hg2
      have hi1 := run_strIx_i s (2 * (k : Int)) (2 * k) (by omega) hx1
      have hi2 := run_strIx_i s (2 * (k : Int) + 1) (2 * k + 1) (by omega) hx2
      go_wp2_with fail
      refine (digitValue_any _ _ hb1).mono ?_; rintro e w' ⟨rfl, rfl⟩
      rw [hd1]
      go_wp2_with fail
      refine (digitValue_any _ _ hb2).mono ?_; rintro e w' ⟨rfl, rfl⟩
      rw [hd2]
      go_wp2
      go_roundw
      case rel => exact ⟨k + 1, n, by omega, by go_num, by rw [← unhide HS k hlt, E8_nib]⟩
      case measure => simp [intOf]; omega
    · have hk' : k = 32 := by omega
      subst hk'
      go_wp2
      exact bodyPost_ret (res25_pair Try.results18 rfl (by rw [unhide HE]) (by simp [go_sem]) (by simp [hpl]) rfl) rfl ⟨rfl, below_drews (((Below.refl _ _).alloc (Nat.le_refl _) _).alloc (by simp) _) _⟩

set_option maxRecDepth 20000 in
set_option maxHeartbeats 1000000 in
theorem fromHex_len (s : ByteArray) (w : World) (h : s.size ≠ 64) :
    Calls Try.prog 18 #[.string s] w fun e w' => e = .returned (.tuple #[.agg Z25, .int .i64 3]) ∧ Below w.heap.size w w' := by
  have hne : ((s.size : Int) != 64) = true := by simp; omega
  go_enter Try.func18, Try.ntmps18
  go_wp2
  exact bodyPost_ret (res25_pair Try.results18 rfl rfl (by simp [go_sem]) (by simp) rfl) rfl ⟨rfl, ((Below.refl _ _).alloc (Nat.le_refl _) _).alloc (by simp) _⟩

set_option maxRecDepth 20000 in
set_option maxHeartbeats 1000000 in
theorem fromHex_no (s : ByteArray) (w : World) (hsz : s.size = 64) (j : Nat) (hj : j < 64) (hbad : isDig (Sha.nth (bytesOf s) j) = false) (hgood : ∀ i, i < j → isDig (Sha.nth (bytesOf s) i) = true) :
    Calls Try.prog 18 #[.string s] w fun e w' => e = .returned (.tuple #[.agg Z25, .int .i64 3]) ∧ Below w.heap.size w w' := by
  have hby := bytesOf_bytes s
  have HD := hide hgood
  have hne : ((64 : Int) != 64) = false := by decide
  clear hgood
  go_enter Try.func18, Try.ntmps18
  go_wp2
  go_loopw [14] (fun c wr => ∃ (k n : Nat) (L : List Nat), 2 * k ≤ j ∧ c = .int .i64 (k : Int) ∧ L.length = 32 ∧ wr = ((w.alloc (.cells Z25 25)).alloc (.cells (E8 L) 25)).drewN n) (fun c _ => 32 - (intOf c).toNat)
  case atStart => exact ⟨0, 0, List.replicate 32 0, by omega, rfl, by simp, rfl⟩
  case round =>
    obtain ⟨k, n, L, hk, rfl, hpl, rfl⟩ := hrel
    have hlt : k < 32 := by omega
    have hx1 : 2 * k < s.size := by omega
    have hx2 : 2 * k + 1 < s.size := by omega
    have hb1 := hby.at (2 * k)
    have hb2 := hby.at (2 * k + 1)
    have hg1 := digOf_lt (Sha.nth (bytesOf s) (2 * k))
    have hg2 := digOf_lt (Sha.nth (bytesOf s) (2 * k + 1))
    have hor := or_nib _ _ hg1 hg2
    have hi1 := run_strIx_i s (2 * (k : Int)) (2 * k) (by omega) hx1
    have hi2 := run_strIx_i s (2 * (k : Int) + 1) (2 * k + 1) (by omega) hx2
    by_cases hj1 : j = 2 * k
    · subst hj1
      go_wp2_with fail
      refine (digitValue_any _ _ hb1).mono ?_; rintro e w' ⟨rfl, rfl⟩
      rw [hbad]
      go_wp2_with fail
      refine (digitValue_any _ _ hb2).mono ?_; rintro e w' ⟨rfl, rfl⟩
      go_wp2
      exact bodyPost_ret (res25_pair Try.results18 rfl rfl (by simp [go_sem]) (by simp) rfl) rfl ⟨rfl, below_drews (((Below.refl _ _).alloc (Nat.le_refl _) _).alloc (by simp) _) _⟩
    · have hd1 := unhide HD (2 * k) (by omega)
      by_cases hj2 : j = 2 * k + 1
      · subst hj2
        go_wp2_with fail
        refine (digitValue_any _ _ hb1).mono ?_; rintro e w' ⟨rfl, rfl⟩
        rw [hd1]
        go_wp2_with fail
        refine (digitValue_any _ _ hb2).mono ?_; rintro e w' ⟨rfl, rfl⟩
        rw [hbad]
        go_wp2
        exact bodyPost_ret (res25_pair Try.results18 rfl rfl (by simp [go_sem]) (by simp) rfl) rfl ⟨rfl, below_drews (((Below.refl _ _).alloc (Nat.le_refl _) _).alloc (by simp) _) _⟩
      · have hd2 := unhide HD (2 * k + 1) (by omega)
        go_wp2_with fail
        refine (digitValue_any _ _ hb1).mono ?_; rintro e w' ⟨rfl, rfl⟩
        rw [hd1]
        go_wp2_with fail
        refine (digitValue_any _ _ hb2).mono ?_; rintro e w' ⟨rfl, rfl⟩
        rw [hd2]
        go_wp2
        go_roundw
        case rel => exact ⟨k + 1, n, L.set k (16 * digOf (Sha.nth (bytesOf s) (2 * k)) + digOf (Sha.nth (bytesOf s) (2 * k + 1))), by omega, by go_num, by simp [hpl], by rw [E8_nib]⟩
        case measure => simp [intOf]; omega
end Go.Proofs.Ytdkhmjiconedkaa
