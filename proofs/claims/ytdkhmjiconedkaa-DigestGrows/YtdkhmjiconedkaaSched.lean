/- The words of one block: the code's schedule. -/
import Derived.Test.YtdkhmjiconedkaaLeaf
namespace Go.Proofs.Ytdkhmjiconedkaa
open Go.RowKit Go.Great

/-- A row of words, and noughts behind it up to sixty-four. -/
def pad64 (l : List Nat) : List Nat := l ++ List.replicate (64 - l.length) 0
theorem pad64_length (l : List Nat) (h : l.length ≤ 64) : (pad64 l).length = 64 := by simp [pad64]; omega
theorem pad64_set (l : List Nat) (k n : Nat) (hk : l.length = k) (h : k < 64) : (pad64 l).set k n = pad64 (l ++ [n]) := by
  subst hk
  unfold pad64
  rw [List.set_append_right _ _ (Nat.le_refl _), Nat.sub_self]
  obtain ⟨m, hm⟩ : ∃ m, 64 - l.length = m + 1 := ⟨64 - l.length - 1, by omega⟩
  have e : 64 - (l ++ [n]).length = m := by simp; omega
  rw [hm, e, List.replicate_succ]
  simp
theorem pad64_get (l : List Nat) (i : Nat) (h : i < l.length) : Sha.nth (pad64 l) i = Sha.nth l i := by
  unfold pad64 Sha.nth; rw [List.getElem?_append_left h]
theorem pad64_full (l : List Nat) (h : l.length = 64) : pad64 l = l := by simp [pad64, h]
theorem Z54_pad : Z54 = E32 (pad64 []) := rfl

theorem wrap_sub (i c : Nat) (h : c ≤ i) (h2 : i ≤ 64) : IntKind.i64.wrap ((i : Int) - (c : Int)) = ((i - c : Nat) : Int) := by
  rw [← Int.ofNat_sub h]
  have : i - c ≤ 64 := by omega
  generalize i - c = m at *
  have all : ∀ m : Fin 65, IntKind.i64.wrap ((m.val : Nat) : Int) = ((m.val : Nat) : Int) := by decide
  exact all ⟨m, by omega⟩
theorem first_pad (p : List Nat) (k : Nat) (hk : k < 16) : (pad64 (Sha.first p k)).set k (Sha.wordAt p k) = pad64 (Sha.first p (k + 1)) :=
  pad64_set _ _ _ (Sha.first_length p k) (by omega)
theorem more_pad (l : List Nat) (hl : l.length = 16) (k : Nat) (hk : k < 48) : (pad64 (Sha.more l k)).set (16 + k) (Sha.next (Sha.more l k) (16 + k)) = pad64 (Sha.more l (k + 1)) :=
  pad64_set _ _ _ (by rw [Sha.more_length, hl]) (by omega)

set_option maxRecDepth 20000 in
set_option maxHeartbeats 1000000 in
theorem schedule_any (b o cap : Nat) (p : List Nat) (w : World) (hb : Sha.Bytes p) (hcap : 64 ≤ cap) (hB : b < w.heap.size)
    (hc : ∀ i, i < 64 → w.cell? ⟨b, o + i, none⟩ = some (.int .u8 ((Sha.nth p i : Nat) : Int))) :
    Calls Try.prog 47 #[.slice (some ⟨b, o, none⟩) 64 cap] w fun e w' => e = .returned (.agg (E32 (Sha.sched p))) ∧ Below w.heap.size w w' := by
  go_enter Try.func47, Try.ntmps47
  go_wp2
  go_loopw [10] (fun c wr => ∃ k n : Nat, k ≤ 16 ∧ c = .int .i64 k ∧ wr = ((w.alloc (.cells Z54 54)).alloc (.cells (E32 (pad64 (Sha.first p k))) 54)).drewN n) (fun c _ => 16 - (intOf c).toNat)
  case atStart => exact ⟨0, 0, by omega, rfl, rfl⟩
  case round =>
    obtain ⟨k, n, hk, rfl, rfl⟩ := hrel
    have hpl := pad64_length (Sha.first p k) (by rw [Sha.first_length]; omega)
    by_cases hlt : k < 16
    · have hk64 : k < 64 := by omega
      have hcell : ∀ j, j < 64 → (((w.alloc (.cells Z54 54)).alloc (.cells (E32 (pad64 (Sha.first p k))) 54)).drewN n).cell? ⟨b, o + j, none⟩ = some (.int .u8 ((Sha.nth p j : Nat) : Int)) := by
        intro j hj; rw [← hc j hj]; simp [go_sem, hB, Nat.lt_succ_of_lt hB]
      go_wp2_with fail
      refine (word_any b (o + 4 * k) (Sha.nth p (4 * k)) (Sha.nth p (4 * k + 1)) (Sha.nth p (4 * k + 2)) (Sha.nth p (4 * k + 3)) (cap - 4 * k) _ (hcell _ (by omega)) (hcell (4 * k + 1) (by omega)) (hcell (4 * k + 2) (by omega)) (hcell (4 * k + 3) (by omega)) (hb.at _) (hb.at _) (hb.at _) (hb.at _)).mono ?_
      rintro e w' ⟨rfl, m, rfl⟩
      clear hcell
      go_wp2
      go_roundw
      case rel => exact ⟨k + 1, n + m, by omega, by go_num, by rw [← first_pad p k hlt]; rfl⟩
      case measure => simp [intOf]; omega
    · have hk16 : k = 16 := by omega
      subst hk16
      obtain ⟨F, hF⟩ : ∃ F : Nat → List Nat, F = fun i => pad64 (Sha.more (Sha.first p 16) (i - 16)) := ⟨_, rfl⟩
      have hF16 : pad64 (Sha.first p 16) = F 16 := by rw [hF]; rfl
      rw [hF16]
      have hlen : ∀ i, i ≤ 64 → (F i).length = 64 := fun i hi => by rw [hF]; exact pad64_length _ (by rw [Sha.more_length, Sha.first_length]; omega)
      have hwords : ∀ i j, 16 ≤ i → j < i → Sha.nth (F i) j < 4294967296 := fun i j h1 h2 => by
        rw [hF]; simp only; rw [pad64_get _ _ (by rw [Sha.more_length, Sha.first_length]; omega)]; exact (Sha.more_words (Sha.first_words hb 16) (i - 16)).at j
      have HS : Hid (∀ i, 16 ≤ i → i < 64 → (F i).set i (Sha.next (F i) i) = F (i + 1)) := fun i h1 h2 => by
        rw [hF]; simp only
        have := more_pad (Sha.first p 16) (Sha.first_length p 16) (i - 16) (by omega)
        rw [show 16 + (i - 16) = i by omega, show i - 16 + 1 = i + 1 - 16 by omega] at this
        have e : ∀ j, j < i → Sha.nth (pad64 (Sha.more (Sha.first p 16) (i - 16))) j = Sha.nth (Sha.more (Sha.first p 16) (i - 16)) j := fun j hj => pad64_get _ _ (by rw [Sha.more_length, Sha.first_length]; omega)
        rw [← this]; unfold Sha.next
        rw [e _ (by omega), e _ (by omega), e _ (by omega), e _ (by omega)]
      have HE : Hid (F 64 = Sha.sched p) := by rw [hF]; exact pad64_full _ (Sha.sched_length p)
      clear hF hF16 hpl hlt hk
      rw [show ((16 : Nat) : Int) = 16 from rfl]
      go_wp2
      go_loopw [5] (fun c wr => ∃ i n : Nat, 16 ≤ i ∧ i ≤ 64 ∧ c = .int .i64 (i : Int) ∧ wr = ((w.alloc (.cells Z54 54)).alloc (.cells (E32 (F i)) 54)).drewN n) (fun c _ => 64 - (intOf c).toNat)
      case atStart => exact ⟨16, n, by omega, by omega, rfl, rfl⟩
      case round =>
        obtain ⟨i, m, hi1, hi2, rfl, rfl⟩ := hrel
        have hpl := hlen i hi2
        by_cases hlt : i < 64
        · have l15 := hwords i (i - 15) hi1 (by omega)
          have l2 := hwords i (i - 2) hi1 (by omega)
          have l16 := hwords i (i - 16) hi1 (by omega)
          have l7 := hwords i (i - 7) hi1 (by omega)
          have e15 : IntKind.i64.wrap ((i : Int) - 15) = ((i - 15 : Nat) : Int) := wrap_sub i 15 (by omega) (by omega)
          have e2 : IntKind.i64.wrap ((i : Int) - 2) = ((i - 2 : Nat) : Int) := wrap_sub i 2 (by omega) (by omega)
          have e16 : IntKind.i64.wrap ((i : Int) - 16) = ((i - 16 : Nat) : Int) := wrap_sub i 16 (by omega) (by omega)
          have e7 : IntKind.i64.wrap ((i : Int) - 7) = ((i - 7 : Nat) : Int) := wrap_sub i 7 (by omega) (by omega)
          have b15 : i - 15 < 64 := by omega
          have b2 : i - 2 < 64 := by omega
          have b16 : i - 16 < 64 := by omega
          have b7 : i - 7 < 64 := by omega
          clear hc hwords hlen
          go_wp2
          go_quiet (fail)
          go_wp2_with fail
          refine (turn_i _ _ _ l15 (by omega) (by omega)).mono ?_; rintro e w' ⟨rfl, rfl⟩
          go_wp2_with fail
          refine (turn_i _ _ _ l15 (by omega) (by omega)).mono ?_; rintro e w' ⟨rfl, rfl⟩
          go_wp2_with fail
          refine (turn_i _ _ _ l2 (by omega) (by omega)).mono ?_; rintro e w' ⟨rfl, rfl⟩
          go_wp2_with fail
          refine (turn_i _ _ _ l2 (by omega) (by omega)).mono ?_; rintro e w' ⟨rfl, rfl⟩
          go_wp2_with fail
          go_region
          go_wp2
          go_roundw
          case rel => exact ⟨i + 1, m + nq + 1, by omega, by omega, by go_num, by rw [← HS.out i hi1 hlt]; rfl⟩
          case measure => simp [intOf]; omega
        · have hi64 : i = 64 := by omega
          subst hi64
          clear hlen hwords hc HS
          go_wp2
          refine bodyPost_ret (v := .agg (E32 (Sha.sched p))) (res54 Try.results47 rfl ?_ (by simp)) rfl ⟨rfl, ?_⟩
          · rw [← HE.out]; simp [go_sem]
          · exact below_drews (((Below.refl _ _).alloc (Nat.le_refl _) _).alloc (by simp) _) _
end Go.Proofs.Ytdkhmjiconedkaa
