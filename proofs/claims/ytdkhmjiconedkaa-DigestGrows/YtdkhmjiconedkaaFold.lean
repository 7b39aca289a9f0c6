/- Fold, in the code and in the document's own answer: the same twenty bytes. -/
import Derived.Test.YtdkhmjiconedkaaNil
namespace Go.Proofs.Ytdkhmjiconedkaa
open Go.RowKit Go.Great

@[go_sem] theorem lt_two (a : Nat) : a < a + 1 + 1 := by omega
@[go_sem] theorem lt_three (a : Nat) : a < a + 1 + 1 + 1 := by omega
@[go_sem] theorem lt_four (a : Nat) : a < a + 1 + 1 + 1 + 1 := by omega
/-- The twenty bytes behind the first i of the digest. -/
def foldTo (l : List Nat) : Nat → List Nat
  | 0 => zs 20
  | i + 1 => (foldTo l i).set (i % 20) (x8 (Sha.nth (foldTo l i) (i % 20)) (Sha.nth l i))
theorem foldTo_length (l : List Nat) (i : Nat) : (foldTo l i).length = 20 := by
  induction i with
  | zero => exact zs_length 20
  | succ i ih => simp [foldTo, ih]
theorem Z30_zs : Z30 = E8 (zs 20) := rfl

set_option maxRecDepth 20000 in
set_option maxHeartbeats 1000000 in
theorem fold_any (l : List Nat) (w : World) (hl : l.length = 32) :
    Calls Try.prog 14 #[.agg (E8 l)] w fun e w' => e = .returned (.agg (E8 (foldTo l 32))) ∧ Below w.heap.size w w' := by
  obtain ⟨F, hF⟩ : ∃ F : Nat → List Nat, F = foldTo l := ⟨_, rfl⟩
  have h0 : Z30 = E8 (F 0) := by rw [hF]; rfl
  have hlen : ∀ i, (F i).length = 20 := fun i => by rw [hF]; exact foldTo_length l i
  have HS : Hid (∀ i, (F i).set (i % 20) (x8 (Sha.nth (F i) (i % 20)) (Sha.nth l i)) = F (i + 1)) := fun i => by rw [hF]; rfl
  have HE : Hid (foldTo l 32 = F 32) := by rw [hF]; exact rfl
  generalize foldTo l 32 = R at *
  have HL := hide hlen
  have H0 := hide h0
  clear hF h0 hlen
  go_enter Try.func14, Try.ntmps14
  go_wp2
  go_loopw [7] (fun c wr => ∃ i n : Nat, i ≤ 32 ∧ c = .int .i64 (i : Int) ∧ wr = (((w.alloc (.cells (E8 l) 25)).alloc (.cells Z30 30)).alloc (.cells (E8 (F i)) 30)).drewN n) (fun c _ => 32 - (intOf c).toNat)
  case atStart => exact ⟨0, 0, by omega, rfl, by rw [← unhide H0]; rfl⟩
  case round =>
    obtain ⟨i, n, hi, rfl, rfl⟩ := hrel
    have hpl := unhide HL i
    by_cases hlt : i < 32
    · have hm : i % 20 < 20 := Nat.mod_lt _ (by omega)
      go_wp2
      go_roundw
      case rel => exact ⟨i + 1, n, by omega, by go_num, by rw [← unhide HS i]⟩
      case measure => simp [intOf]; omega
    · have hi' : i = 32 := by omega
      subst hi'
      go_wp2
      refine bodyPost_ret (v := .agg (E8 (F 32))) (res30 Try.results14 rfl ?_ (by simp [hpl])) rfl ⟨by rw [unhide HE], ?_⟩
      · simp [go_sem]
      · exact below_drews ((((Below.refl _ _).alloc (Nat.le_refl _) _).alloc (by simp) _).alloc (by simp; omega) _) _

set_option maxRecDepth 20000 in
set_option maxHeartbeats 1000000 in
theorem foldRef_any (l : List Nat) (w : World) (hl : l.length = 32) :
    Calls Try.prog 15 #[.agg (E8 l)] w fun e w' => e = .returned (.agg (E8 (foldTo l 32))) ∧ Below w.heap.size w w' := by
  obtain ⟨F, hF⟩ : ∃ F : Nat → List Nat, F = foldTo l := ⟨_, rfl⟩
  have h0 : Z30 = E8 (F 0) := by rw [hF]; rfl
  have hlen : ∀ i, (F i).length = 20 := fun i => by rw [hF]; exact foldTo_length l i
  have HS : Hid (∀ i, (F i).set (i % 20) (x8 (Sha.nth (F i) (i % 20)) (Sha.nth l i)) = F (i + 1)) := fun i => by rw [hF]; rfl
  have HE : Hid (foldTo l 32 = F 32) := by rw [hF]; exact rfl
  generalize foldTo l 32 = R at *
  have HL := hide hlen
  have H0 := hide h0
  clear hF h0 hlen
  go_enter Try.func15, Try.ntmps15
  go_wp2
  go_loopw [4] (fun c wr => ∃ i n : Nat, i ≤ 32 ∧ c = .int .i64 (i : Int) ∧ wr = (((w.alloc (.cells (E8 l) 25)).alloc (.cells Z30 30)).alloc (.cells (E8 (F i)) 30)).drewN n) (fun c _ => 32 - (intOf c).toNat)
  case atStart => exact ⟨0, 0, by omega, rfl, by rw [← unhide H0]; rfl⟩
  case round =>
    obtain ⟨i, n, hi, rfl, rfl⟩ := hrel
    have hpl := unhide HL i
    by_cases hlt : i < 32
    · have hm : i % 20 < 20 := Nat.mod_lt _ (by omega)
      go_wp2
      go_region
      go_wp2
      go_roundw
      case rel => exact ⟨i + 1, n + 1, by omega, by go_num, by rw [← unhide HS i]⟩
      case measure => simp [intOf]; omega
    · have hi' : i = 32 := by omega
      subst hi'
      go_wp2
      refine bodyPost_ret (v := .agg (E8 (F 32))) (res30 Try.results15 rfl ?_ (by simp [hpl])) rfl ⟨by rw [unhide HE], ?_⟩
      · simp [go_sem]
      · exact below_drews ((((Below.refl _ _).alloc (Nat.le_refl _) _).alloc (by simp) _).alloc (by simp; omega) _) _

set_option maxRecDepth 20000 in
set_option maxHeartbeats 1000000 in
theorem folds_walk (l : List Nat) (w : World) (hl : l.length = 32) :
    Calls Try.prog 4 #[.agg (E8 l)] w fun e w' => e = .returned (.bool true) ∧ Below w.heap.size w w' := by
  have hfl := foldTo_length l 32
  generalize hR : foldTo l 32 = R at *
  have HR := hide hR
  clear hR
  have hb0 : Below w.heap.size w (w.alloc (.cells (E8 l) 25)) := (Below.refl _ _).alloc (Nat.le_refl _) _
  have hr0 : rowOf (w.alloc (.cells (E8 l) 25)) w.heap.size = E8 l := rowOf_alloc_at _ _ _ _ rfl
  have hdr0 := hb0.drew
  go_enter Try.func4, Try.ntmps4
  go_wp2
  go_region_with (first
    | (go_at_call 14
       refine (fold_any l _ hl).mono ?_
       rw [unhide HR]
       rintro e w1 ⟨rfl, hb1⟩
       have hz1 : w.heap.size + 1 ≤ w1.heap.size := by have := hb1.size; simp at this; omega
       have hr1 : rowOf w1 w.heap.size = E8 l := by rw [below_rowOf hb1 (by simp)]; exact hr0
       have hbl1 : Below w.heap.size w w1 := hdr0.trans (hb1.mono (by simp))
       clear hb1)
    | (go_at_call 15
       refine (foldRef_any l _ hl).mono ?_
       rw [unhide HR]
       rintro e w2 ⟨rfl, hb2⟩
       have hbl2 : Below w.heap.size w w2 := hbl1.trans (hb2.mono (by omega))
       clear hb2)
    | (go_at_call 13
       refine (known_any _).mono ?_
       rintro e w3 ⟨rfl, hb3⟩
       have hbl3 : Below w.heap.size w w3 := hbl2.trans (hb3.mono hbl2.size)
       clear hb3))
  all_goals
    go_wp2
    go_ret
    exact ⟨rfl, hbl3⟩
end Go.Proofs.Ytdkhmjiconedkaa
