/- The thing that Write does, of a name that names nothing yet. -/
import Derived.Test.YtbnbakcoomjnaaaFcl
namespace Go.Proofs.Ytbnbakcoomjnaaa
open Go.RowKit Go.Maps
set_option linter.unusedSimpArgs false
set_option maxRecDepth 20000 in
set_option maxHeartbeats 1000000 in
theorem do_write (f o bn bd : Nat) (m : Option Nat) (n : Nat) (L : ByteArray → Option Nat) (s : ByteArray) (a : Option Addr) (d c : Nat) (u : Nat) (w : World) (hc : w.cell? ⟨f, o, none⟩ = some (.map m)) (hu : w.cell? ⟨f, o + 1, none⟩ = some (.int .i64 (u : Int))) (hfz : ∀ j, w.frozen? ⟨f, j, none⟩ = false)
    (h : TabIs w m n L) (hs : s.size ≤ maxLen) (hn : n < maxLen) (hL : L s = none) (hm : m = none → n = 0) (hb : u + d ≤ 1000000000000) (h1 : w.cell? ⟨bn, 0, none⟩ = some (.string s)) (h2 : w.cell? ⟨bd, 0, none⟩ = some (.slice a d c)) :
    Calls Try.prog 34 #[.pointer (some ⟨f, o, none⟩), .pointer (some ⟨bn, 0, none⟩), .pointer (some ⟨bd, 0, none⟩)] w fun e w' => e = .returned (.tuple #[]) ∧ ∃ mb, Laid f o w.heap.size mb m 0 n L s ((w.setCell ⟨f, o + 1, none⟩ (.int .i64 ((u + d : Nat) : Int))).alloc (.cells #[.slice a d c, .int .i32 0] 94)) w' := by
  have HW := hide (write_none f o m n L s a d c u w hc hu hfz h hs hn hL hm hb)
  clear h hfz
  go_enter Try.func34, Try.ntmps34
  go_wp2_with fail
  refine (unhide HW).mono ?_
  rintro e w2 ⟨rfl, hE⟩
  have HE := hide hE
  clear hE
  go_wp2_with fail
  go_end0
  exact ⟨rfl, unhide HE⟩
end Go.Proofs.Ytbnbakcoomjnaaa
