/- Take. -/
import Derived.Test.YtnlfmmempomcaaaMa
namespace Go.Proofs.Ytnlfmmempomcaaa
open Go.RowKit Go.Maps
set_option linter.unusedSimpArgs false
def St.hold (S : St) (n : Int) (s : ByteArray) (x : Bool) : St := ⟨fset S.hs s (S.hs s ++ [n]), fset S.sh s x, S.rw, S.wt⟩
def St.wait (S : St) (n : Int) (s : ByteArray) (x : Bool) : St := ⟨S.hs, S.sh, fset S.rw s (S.rw s ++ [(n, x)]), fset S.wt n (some (s, x))⟩
theorem Inv.hold {S : St} (h : Inv S) {n : Int} {s : ByteArray} (x : Bool) (h1 : n ∉ S.hs s) (h2 : S.wt n = none) : Inv (S.hold n s x) := by
  refine ⟨h.wait, h.once, fun t => ?_, fun t m y hy => ?_⟩
  · by_cases e : t = s
    · subst e
      rw [show (S.hold n t x).hs t = S.hs t ++ [n] from if_pos rfl]
      refine List.nodup_append.2 ⟨h.oneh t, by simp, fun a ha b hb => ?_⟩
      simp at hb
      subst hb
      rintro rfl
      exact h1 ha
    · rw [show (S.hold n s x).hs t = S.hs t from if_neg e]; exact h.oneh t
  · by_cases e : t = s
    · subst e
      rw [show (S.hold n t x).hs t = S.hs t ++ [n] from if_pos rfl]
      have := h.apart t m y hy
      have hmn : m ≠ n := fun e2 => by subst e2; rw [(h.wait m t y).2 hy] at h2; cases h2
      simp [this, hmn]
    · rw [show (S.hold n s x).hs t = S.hs t from if_neg e]; exact h.apart t m y hy
theorem Inv.waits {S : St} (h : Inv S) {n : Int} {s : ByteArray} (x : Bool) (h1 : n ∉ S.hs s) (h2 : S.wt n = none) : Inv (S.wait n s x) := by
  have hno : ∀ t y, (n, y) ∉ S.rw t := fun t y hy => by rw [(h.wait n t y).2 hy] at h2; cases h2
  refine ⟨fun m t y => ?_, fun t => ?_, h.oneh, fun t m y hy => ?_⟩
  · by_cases em : m = n
    · subst em
      rw [show (S.wait m s x).wt m = some (s, x) from if_pos rfl]
      by_cases e : t = s
      · subst e
        rw [show (S.wait m t x).rw t = S.rw t ++ [(m, x)] from if_pos rfl]
        simp [hno t y, eq_comm]
      · rw [show (S.wait m s x).rw t = S.rw t from if_neg e]
        simp [hno t y, Ne.symm e]
    · rw [show (S.wait n s x).wt m = S.wt m from if_neg em, h.wait]
      by_cases e : t = s
      · subst e
        rw [show (S.wait n t x).rw t = S.rw t ++ [(n, x)] from if_pos rfl]
        simp [em]
      · rw [show (S.wait n s x).rw t = S.rw t from if_neg e]
  · by_cases e : t = s
    · subst e
      rw [show (S.wait n t x).rw t = S.rw t ++ [(n, x)] from if_pos rfl, List.map_append]
      refine List.nodup_append.2 ⟨h.once t, by simp, fun a ha b hb => ?_⟩
      simp at hb
      subst hb
      rintro rfl
      obtain ⟨p, hp, e⟩ := List.mem_map.1 ha
      exact hno t p.2 (by rw [← e]; exact hp)
    · rw [show (S.wait n s x).rw t = S.rw t from if_neg e]; exact h.once t
  · by_cases e : t = s
    · subst e
      rw [show (S.wait n t x).rw t = S.rw t ++ [(n, x)] from if_pos rfl] at hy
      rcases List.mem_append.1 hy with hy | hy
      · exact h.apart t m y hy
      · simp at hy
        rw [hy.1]; exact h1
    · rw [show (S.wait n s x).rw t = S.rw t from if_neg e] at hy; exact h.apart t m y hy
theorem Emp.hold {S : St} (h : Emp S) (n : Int) (s : ByteArray) (x : Bool) : Emp (S.hold n s x) := fun t ht => by
  by_cases e : t = s
  · subst e
    rw [show (S.hold n t x).hs t = S.hs t ++ [n] from if_pos rfl] at ht
    simp at ht
  · rw [show (S.hold n s x).hs t = S.hs t from if_neg e] at ht; exact h t ht
theorem Emp.waits {S : St} (h : Emp S) (n : Int) (s : ByteArray) (x : Bool) (hs : S.hs s ≠ []) : Emp (S.wait n s x) := fun t ht => by
  by_cases e : t = s
  · exact absurd ht (e ▸ hs)
  · rw [show (S.wait n s x).rw t = S.rw t from if_neg e]; exact h t ht
set_option maxRecDepth 20000 in
set_option maxHeartbeats 1000000 in
theorem ring_quiet {k : Nat} (O : Ghost) (tb : Nat) (S : St) (ex : Option Int) (F : ByteArray → Option Nat) (G : Int → Option Nat) (lm tm : Option Nat) (w : World) (hM : Mem k O w) (h : Rp O tb S ex F G lm tm) (n : Int) (a b : Nat) (hG : G n = some a) (hq : ∀ t, n ∈ S.hs t → S.rw t = []) :
    Calls Try.prog 41 #[.pointer (some ⟨a, 0, none⟩), .pointer (some ⟨b, 0, none⟩)] w fun e w' => e = .returned (.bool false) ∧ Below w.heap.size w w' := by
  have HC := hide (awaited_ok O tb S ex F G lm tm w hM h n a hG false (by constructor; (· intro h; cases h); (· rintro ⟨t, h1, h2⟩; exact absurd (hq t h1) h2)))
  clear hM h hq hG
  go_enter Try.func41, Try.ntmps41
  go_wp2_with (go_at_call 58; refine (unhide HC).mono ?_; rintro e w' ⟨rfl, hb⟩)
  go_ret
  exact ⟨rfl, hb⟩
set_option maxRecDepth 20000 in
theorem take_arg (tb : Nat) (n : Int) (s : ByteArray) (x : Bool) (w : World) (hn : n < 0) :
    Calls Try.prog 12 #[.pointer (some ⟨tb, 0, none⟩), .int .i64 n, .string s, .bool x] w fun e w' => e = .returned (.tuple #[.bool false, .int .i64 1]) ∧ w' = w := by
  go_enter Try.func12, Try.ntmps12
  go_wp2_with fail
  go_ret2
  exact ⟨rfl, rfl⟩
set_option maxRecDepth 20000 in
set_option maxHeartbeats 1000000 in
theorem take_has {k : Nat} (O : Ghost) (tb : Nat) (S : St) (w : World) (hM : Mem k O w) (h : TbIs O tb S) (n : Int) (s : ByteArray) (x : Bool) (hn : IOk n) (hs : SOk s) (h0 : ¬ n < 0) (hh : (S.waits n).2 = true ∨ S.holds n s = true) :
    Calls Try.prog 12 #[.pointer (some ⟨tb, 0, none⟩), .int .i64 n, .string s, .bool x] w fun e w' => e = .returned (.tuple #[.bool false, .int .i64 8]) ∧ Below w.heap.size w w' := by
  have HW := hide (waits_tb O tb S w hM h n hn)
  have HH : Hid (∀ w1, Below w.heap.size w w1 → _) := fun w1 hb => holds_tb O tb S w1 (Rp.below hM hb) h n s hn hs
  clear h hM hn hs
  cases hw : (S.waits n).2 with
  | true =>
    rw [hw] at HW
    clear hh hw
    go_enter Try.func12, Try.ntmps12
    go_wp2_with (first | (go_at_call 19; refine (unhide HW).mono ?_; rintro e w1 ⟨rfl, hb⟩) | (go_at_call 21; refine (unhide HH w1 hb).mono ?_; rintro e w2 ⟨rfl, rfl⟩))
    go_ret2
    exact ⟨rfl, hb⟩
  | false =>
    rw [hw] at HW
    have h2 : S.holds n s = true := by rcases hh with h | h; (· rw [hw] at h; cases h); (· exact h)
    rw [h2] at HH
    clear hh hw h2
    go_enter Try.func12, Try.ntmps12
    go_wp2_with (first | (go_at_call 19; refine (unhide HW).mono ?_; rintro e w1 ⟨rfl, hb⟩) | (go_at_call 21; refine (unhide HH w1 hb).mono ?_; rintro e w2 ⟨rfl, rfl⟩))
    go_ret2
    exact ⟨rfl, hb⟩
end Go.Proofs.Ytnlfmmempomcaaa
