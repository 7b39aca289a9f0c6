/- The law FsOfNothing. -/
import Derived.Test.YtbnbakcoomjnaaaHg
namespace Go.Proofs.Ytbnbakcoomjnaaa
open Go.RowKit Go.Maps
set_option linter.unusedSimpArgs false
/-- What was laid since. -/
def Since (w W : World) : Prop := Below w.heap.size w W
theorem Since.go {w W V : World} (h : Since w W) (hb : Below W.heap.size W V) : Since w V := h.trans (hb.mono h.size)
set_option maxRecDepth 20000 in
set_option maxHeartbeats 4000000 in
theorem nothing_any (s : ByteArray) (a : Option Addr) (n c : Nat) (k : Int) (w : World) (hs : s.size ≤ 140737488351232) (hn : n ≤ 281474976710656) :
    Calls Try.prog 5 #[.string s, .slice a n c, .int .i64 k] w fun e w' => e = .returned (.bool true) ∧ Below w.heap.size w w' := by
  by_cases hlen : s.size + n ≤ 8000
  · have hI : ¬ (8000 < (s.size : Int) + (n : Int)) := by omega
    have hst : Since w w := Below.refl _ _
    go_enter Try.func5, Try.ntmps5
    go_wp2_with (first | (go_at_call 17; refine (fuse_nil _ _).mono ?_; rintro e w' ⟨rfl, rfl⟩) | (go_at_call 14; refine (crash_nil _ _).mono ?_; rintro e w' ⟨rfl, rfl⟩) | (go_at_call 15; refine (read_nil _ _).mono ?_; rintro e w' ⟨rfl, rfl⟩) | (go_at_call 19; refine (node_nil _ _).mono ?_; rintro e w' ⟨rfl, rfl⟩) | (go_at_call 10; refine (write_nil _ _ _ _ _).mono ?_; rintro e w1 ⟨rfl, hb⟩; replace hst := hst.go hb; clear hb) | (go_at_call 20; refine (append_nil _ _ _ _ _).mono ?_; rintro e w2 ⟨rfl, hb⟩; replace hst := hst.go hb; clear hb) | (go_at_call 21; refine (link_nil _ _ _).mono ?_; rintro e w3 ⟨rfl, hb⟩; replace hst := hst.go hb; clear hb) | (go_at_call 22; refine (rename_nil _ _ _).mono ?_; rintro e w4 ⟨rfl, hb⟩; replace hst := hst.go hb; clear hb) | (go_at_call 23; refine (remove_nil _ _).mono ?_; rintro e w5 ⟨rfl, hb⟩; replace hst := hst.go hb; clear hb) | (go_at_call 11; refine (sync_nil _).mono ?_; rintro e w' ⟨rfl, rfl⟩) | (go_at_call 24; refine (pending_nil _).mono ?_; rintro e w' ⟨rfl, rfl⟩) | (go_at_call 25; refine (used_nil _).mono ?_; rintro e w' ⟨rfl, rfl⟩) | (go_at_call 18; refine (names_nil _ _).mono ?_; rintro e w' ⟨rfl, rfl⟩) | (go_at_call 26; refine (copy_nil _).mono ?_; rintro e w' ⟨rfl, rfl⟩) | (go_at_call 8; refine (known_any _).mono ?_; rintro e w6 ⟨rfl, hb⟩; replace hst := hst.go hb; clear hb))
    go_ret
    exact ⟨rfl, hst⟩
  · have hI : 8000 < (s.size : Int) + (n : Int) := by omega
    go_enter Try.func5, Try.ntmps5
    go_wp2_with fail
    go_ret
    exact ⟨rfl, Below.refl _ _⟩
end Go.Proofs.Ytbnbakcoomjnaaa
