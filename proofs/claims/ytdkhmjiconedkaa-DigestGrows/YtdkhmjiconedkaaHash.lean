/- The Hasher's leaves: its size, how many bytes it holds, its length. -/
import Derived.Test.YtdkhmjiconedkaaRefsum
import Derived.Laws.LoneSync
namespace Go.Proofs.Ytdkhmjiconedkaa
open Go.RowKit Go.Great
set_option maxRecDepth 20000 in
set_option maxHeartbeats 400000 in
theorem load_any (b o : Nat) (x : Int) (w : World) (hc : w.cell? ⟨b, o, none⟩ = some (.int .i64 x)) :
    Calls Try.prog 40 #[.pointer (some ⟨b, o, none⟩)] w fun e w' => e = .returned (.int .i64 x) ∧ w' = w := by
  have hl := run_call_load (P := Try.prog) Try.func49 (by kernel_rfl) (by kernel_rfl) (by kernel_rfl) .i64 (by kernel_rfl) hc
  go_enter Try.func40, Try.ntmps40
  go_wp2
  go_ret
  exact ⟨rfl, rfl⟩
set_option maxRecDepth 20000 in
set_option maxHeartbeats 400000 in
theorem add_any (b o : Nat) (x y s : Int) (w : World) (hc : w.cell? ⟨b, o, none⟩ = some (.int .i64 x)) (hz : w.frozen? ⟨b, o, none⟩ = false) (hs : s = x + y) (h1 : 0 ≤ s) (h2 : s ≤ 4611686018427387904) :
    Calls Try.prog 37 #[.pointer (some ⟨b, o, none⟩), .int .i64 y] w fun e w' => e = .returned (.int .i64 s) ∧ w' = w.setCell ⟨b, o, none⟩ (.int .i64 s) := by
  subst hs
  have hl := run_call_add (P := Try.prog) Try.func45 (by kernel_rfl) (by kernel_rfl) (by kernel_rfl) .i64 (by kernel_rfl) (y := y) (s := x + y) hc hz (by
    have e : IntKind.i64.wrap (x + y) = x + y := IntWalk.i64_in _ (by omega)
    simp [Op.intArith, go_sem, e])
  go_enter Try.func37, Try.ntmps37
  go_wp2
  go_ret
  exact ⟨rfl, rfl⟩
set_option maxRecDepth 20000 in
set_option maxHeartbeats 400000 in
theorem held_any (g : Nat) (N : Nat) (w : World) (hN : N ≤ 4611686018427387904) (hc : w.cell? ⟨g, 72, none⟩ = some (.int .i64 (N : Int))) :
    Calls Try.prog 36 #[.pointer (some ⟨g, 0, none⟩)] w fun e w' => e = .returned (.int .i64 ((N % 64 : Nat) : Int)) ∧ w' = w := by
  have HL := hide (load_any g 72 N w hc)
  go_enter Try.func36, Try.ntmps36
  go_wp2_with (go_at_call 40; refine (unhide HL).mono ?_; rintro e w' ⟨rfl, hw'⟩; rw [hw']; clear hw' w')
  go_ret
  exact ⟨ret_int (by omega), rfl⟩
set_option maxRecDepth 20000 in
set_option maxHeartbeats 400000 in
theorem hlen_any (g : Nat) (N : Nat) (w : World) (hc : w.cell? ⟨g, 72, none⟩ = some (.int .i64 (N : Int))) :
    Calls Try.prog 25 #[.pointer (some ⟨g, 0, none⟩)] w fun e w' => e = .returned (.int .i64 (N : Int)) ∧ w' = w := by
  have HL := hide (load_any g 72 N w hc)
  go_enter Try.func25, Try.ntmps25
  go_wp2_with (go_at_call 40; refine (unhide HL).mono ?_; rintro e w' ⟨rfl, hw'⟩; rw [hw']; clear hw' w')
  go_ret
  exact ⟨rfl, rfl⟩
/-- The Once's word, and its lock. -/
structure DL where
  w : Int
  lk : Int
def dz : DL := ⟨0, 0⟩
/-- The cells of a Hasher: the state, what no full block holds yet, how many bytes, the Once's word and lock, whether it is told, the digest. -/
def hcells (st rest : List Nat) (N : Int) (done : DL) (told : Bool) (sum : List Nat) : Array Value :=
  E32 st ++ E8 rest ++ #[.int .i64 N, .int .u32 done.w, .int .i32 done.lk, .int .u32 0, .bool told] ++ E8 sum
def H0 : Array Value := hcells (zs 8) (zs 64) 0 dz false (zs 32)
theorem H0_info : ((Try.prog.info? 78).map (fun i => (i.zero, i.size))) = some (some (.agg H0), 109) := by kernel_rfl
end Go.Proofs.Ytdkhmjiconedkaa
