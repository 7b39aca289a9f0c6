/- partsFrom: no further parts. -/
import Derived.Test.YtebcmicmklpflaaGreatDoorRi
import Derived.Test.YtebcmicmklpflaaGreatDoorKb
namespace Go.Proofs.YtebcmicmklpflaaGreatDoor
open Go.RowKit Go.Maps
set_option linter.unusedSimpArgs false
/-- There is no file with the name of a further part. -/
def NoPart (T : Tb) (nm : ByteArray) : Prop := ∀ s : ByteArray, (T.N s).isSome = true → pfx s (nm ++ mark) = false
theorem names_nopart (f : Nat) (S : Fs) (O : Nat → Prop) (k : Nat) (nm : ByteArray) (w : World) (h : FsIs w f 0 S O k) (hk : k ≤ 16000) (hNs : ∀ s i, S.now.N s = some i → s.size ≤ 300) (hP : NoPart S.now nm) :
    Calls Tryz.prog 132 #[.pointer (some ⟨f, 0, none⟩), .string (nm ++ mark)] w fun e w' => ∃ a c, e = .returned (.slice a 0 c) ∧ FsIs w' f 0 S O k ∧ Below w.heap.size w w' := by
  refine (names_ok f S O k (nm ++ mark) w h hk hNs).mono fun e w' ⟨v, xs, e1, _, hx, hm, hr, hF, hb⟩ => ?_
  have hx0 : xs = [] := by
    cases xs with
    | nil => rfl
    | cons s xs =>
      have := (hx s (hm s (by simp))).1 (by simp)
      rw [hP s this.1] at this
      exact absurd this.2 (by simp)
  subst hx0
  obtain ⟨a, c, ev, _⟩ := hr
  exact ⟨a, c, by rw [e1, ev, sortB_length]; rfl, hF, hb⟩
set_option maxRecDepth 20000 in
theorem parts_none (j f : Nat) (p : Int) (S : Fs) (O : Nat → Prop) (k : Nat) (nm : ByteArray) (w : World) (h0 : w.cell? ⟨j, 0, none⟩ = some (.pointer (some ⟨f, 0, none⟩))) (h1 : w.cell? ⟨j, 1, none⟩ = some (.string nm)) (hn : nm.size ≤ 100) (h : FsIs w f 0 S O k) (hk : k ≤ 16000) (hNs : ∀ s i, S.now.N s = some i → s.size ≤ 300) (hP : NoPart S.now nm) :
    Calls Tryz.prog 99 #[.pointer (some ⟨j, 0, none⟩), .int .i64 p] w fun e w' => e = .returned (.slice none 0 0) ∧ FsIs w' f 0 S O k ∧ Below w.heap.size w w' := by
  have HN : Hid (Calls Tryz.prog 132 #[.pointer (some ⟨f, 0, none⟩), .string (nm ++ mark)] w.drew fun e w' => ∃ a c, e = .returned (.slice a 0 c) ∧ Hid (FsIs w' f 0 S O k ∧ Below w.heap.size w w')) :=
    (names_nopart f S O k nm w.drew h.drew hk hNs hP).mono fun e w' ⟨a, c, e1, hF, hb⟩ => ⟨a, c, e1, hF, hb.os, hb.tape, hb.output, hb.size, hb.block⟩
  have hs1 : ¬ (9223372036854775807 < nm.size + 6) := by omega
  clear h hk hNs hP hn
  go_enter Tryz.func99, Tryz.ntmps99
  go_wp2_with fail
  refine wp_region_noPanic ?_
  go_region_law (go_simp; refine (unhide HN).mono ?_; rintro e w5 ⟨a, c, rfl, HE⟩; simp only [])
  all_goals
    refine NoPanic.normal ?_
    go_wp2_with fail
    simp only [Act.put, List.getElem_toArray, List.getElem_cons_zero, List.getElem_cons_succ, List.setIfInBounds_toArray, List.set_cons_zero, List.set_cons_succ]
    go_loop [21, 5] (fun i s => i = .int .i64 0 ∧ s = .slice none 0 0) (fun _ _ => 0)
    case atStart => exact ⟨rfl, rfl⟩
    case round =>
      obtain ⟨rfl, rfl⟩ := hrel
      go_wp2_with fail
      go_ret
      exact ⟨rfl, unhide HE⟩
end Go.Proofs.YtebcmicmklpflaaGreatDoor
