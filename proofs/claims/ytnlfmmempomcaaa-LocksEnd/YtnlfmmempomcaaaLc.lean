/- lets, hold: whether a lock lets one more hold it, and how it does. -/
import Derived.Test.YtnlfmmempomcaaaLb
import Derived.Deep.RegionLaw
import Derived.Deep.QuietTactic
namespace Go.Proofs.Ytnlfmmempomcaaa
open Go.RowKit Go.Maps
set_option linter.unusedSimpArgs false
set_option maxRecDepth 20000 in
set_option maxHeartbeats 1000000 in
theorem lets_any {k : Nat} (b hm : Nat) (z shd r : Bool) (L : Int → Option Nat) (w : World) (h1 : w.cell? ⟨b, 1, none⟩ = some (.map (some hm))) (h2 : w.cell? ⟨b, 2, none⟩ = some (.bool z)) (hL : IMap k w hm L) (hr : r = true ↔ (∀ x, L x = none) ∨ (z = true ∧ shd = true)) :
    Calls Try.prog 39 #[.pointer (some ⟨b, 0, none⟩), .bool shd] w fun e w' => e = .returned (.bool r) ∧ w' = w := by
  obtain ⟨n, hlen, _, h0⟩ := I_len hL
  rw [← h0] at hr
  clear hL h0
  by_cases hn : n = 0
  · subst hn
    obtain rfl : r = true := by simpa using hr
    clear hr
    go_enter Try.func39, Try.ntmps39
    go_wp2_with fail
    go_ret
    exact ⟨rfl, rfl⟩
  · cases z with
    | true =>
      obtain rfl : r = shd := by cases r <;> cases shd <;> simp [hn] at hr ⊢
      clear hr
      have hq : ((n : Int) == 0) = false := by simp [hn]
      go_enter Try.func39, Try.ntmps39
      go_wp2_with fail
      go_ret
      exact ⟨by simp [hq], rfl⟩
    | false =>
      obtain rfl : r = false := by cases r <;> simp [hn] at hr ⊢
      clear hr
      have hq : ((n : Int) == 0) = false := by simp [hn]
      go_enter Try.func39, Try.ntmps39
      go_wp2_with fail
      go_ret
      exact ⟨by simp [hq], rfl⟩
/-- What hold does to what the blocks hold. -/
def heldO (O : Ghost) (b a hm am : Nat) (no : Int) (nm : ByteArray) (rw : Value) (shd : Bool) (H : Int → Option Nat) (A : ByteArray → Option Nat) : Ghost :=
  put (put (put O hm ⟨0, b, .imap (iupd H no (some a))⟩) b ⟨0, b, .raw [.string nm, .map (some hm), .bool shd, rw] 80⟩) am ⟨0, a, .smap (supd A nm (some b))⟩
set_option maxRecDepth 20000 in
set_option maxHeartbeats 1000000 in
theorem hold_any {k B : Nat} (O : Ghost) (b a hm am : Nat) (no : Int) (nm : ByteArray) (z shd : Bool) (rw wv sv : Value) (H : Int → Option Nat) (A : ByteArray → Option Nat) (w : World) (hM : Mem k O w) (hk : k + 1 < maxLen)
    (hb : O b = some ⟨0, b, .raw [.string nm, .map (some hm), .bool z, rw] 80⟩) (ha : O a = some ⟨0, a, .raw [.int .i64 no, .map (some am), wv, sv] 85⟩) (hh : O hm = some ⟨0, b, .imap H⟩) (hA : O am = some ⟨0, a, .smap A⟩)
    (hno : IOk no) (hnm : SOk nm) (hB : B ≤ w.heap.size) :
    Calls Try.prog 40 #[.pointer (some ⟨b, 0, none⟩), .pointer (some ⟨a, 0, none⟩), .bool shd] w fun e w' => e = .returned (.tuple #[]) ∧ Mem (k + 2) (heldO O b a hm am no nm rw shd H A) w' ∧ Stp 0 B O (heldO O b a hm am no nm rw shd H A) w w' := by
  have n1 : b ≠ hm := fun e => by rw [← e, hb] at hh; simp at hh
  have n2 : a ≠ hm := fun e => by rw [← e, ha] at hh; simp at hh
  have n3 : am ≠ hm := fun e => by rw [e, hh] at hA; simp at hA
  have n4 : am ≠ b := fun e => by rw [e, hb] at hA; simp at hA
  have n5 : a ≠ b := fun e => by rw [e, hb] at ha; simp at ha
  obtain ⟨w1, hr1, hS1, ht1⟩ := I_store (hM.drew.im hh) hno (by omega) a
  have hM1 : Mem (k + 1) (put O hm ⟨0, b, .imap (iupd H no (some a))⟩) w1 := hM.drew.turn ht1 hS1 (by omega)
  have hs1 : Stp 0 B O (put O hm ⟨0, b, .imap (iupd H no (some a))⟩) w w1 := (Stp.drew 0 B O w).trans (Stp.turn hh hB ht1)
  have hb1 : (put O hm ⟨0, b, .imap (iupd H no (some a))⟩) b = some ⟨0, b, .raw [.string nm, .map (some hm), .bool z, rw] 80⟩ := by rw [put_other _ _ n1]; exact hb
  have ha1 : (put O hm ⟨0, b, .imap (iupd H no (some a))⟩) a = some ⟨0, a, .raw [.int .i64 no, .map (some am), wv, sv] 85⟩ := by rw [put_other _ _ n2]; exact ha
  have hA1 : (put O hm ⟨0, b, .imap (iupd H no (some a))⟩) am = some ⟨0, a, .smap A⟩ := by rw [put_other _ _ n3]; exact hA
  have hM2 := hM1.set hb1 2 (.bool shd)
  have hs2 : Stp 0 B _ _ w1 _ := Stp.set hb1 2 (.bool shd)
  have hA2 : (put (put O hm ⟨0, b, .imap (iupd H no (some a))⟩) b ⟨0, b, .raw ([.string nm, .map (some hm), .bool z, rw].set 2 (.bool shd)) 80⟩) am = some ⟨0, a, .smap A⟩ := by rw [put_other _ _ n4]; exact hA1
  obtain ⟨w3, hr3, hS3, ht3⟩ := S_store (hM2.drew.sm hA2) hnm hk b
  have hM3 : Mem (k + 1 + 1) _ w3 := hM2.drew.turn (o := ⟨0, a, .smap (supd A nm (some b))⟩) ht3 hS3 (by omega)
  have hs3 : Stp 0 B _ _ _ w3 := (Stp.drew 0 B _ _).trans (Stp.turn (t' := .smap (supd A nm (some b))) hA2 (by show B ≤ (w1.setCell _ _).heap.size; rw [set_size]; exact Nat.le_trans hB hs1.size) ht3)
  have HE : Hid (Mem (k + 2) (heldO O b a hm am no nm rw shd H A) w3 ∧ Stp 0 B O (heldO O b a hm am no nm rw shd H A) w w3) := ⟨hM3, (hs1.trans hs2).trans hs3⟩
  have c1 := hM.cell hb (i := 1) rfl
  have c2 := hM.cell ha (i := 0) rfl
  have d1 := hM1.cell hb1 (i := 2) rfl
  have dz := hM1.frozen hb1 2
  have e1 := hM2.cell (put_same _ _ _) (i := 0) rfl
  have e2 := hM2.cell (i := 1) (by rw [put_other _ _ n5]; exact ha1) rfl
  clear hM hb ha hh hA hM1 hs1 hb1 ha1 hA1 hM2 hs2 hA2 hM3 hs3 ht1 ht3 hS1 hS3
  go_enter Try.func40, Try.ntmps40
  go_wp2_with fail
  go_region
  go_wp2_with fail
  go_region
  go_wp2_with fail
  go_end0
  exact ⟨rfl, unhide HE⟩
end Go.Proofs.Ytnlfmmempomcaaa
