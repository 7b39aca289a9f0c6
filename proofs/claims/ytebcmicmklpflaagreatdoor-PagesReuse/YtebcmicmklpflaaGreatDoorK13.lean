import Derived.Test.YtebcmicmklpflaaGreatDoorK12
import Derived.Laws.Bits64
import Derived.Lib.TrailingZeros
import Derived.RangeFuncNested
import Derived.RangeFuncBound
import Derived.RangeFuncCalls
import Derived.RangeFuncLeaves
import Derived.Shelf.Abstract
import Derived.Shelf.RegionOpen
import Derived.WalkKit
import Derived.TacticsInMore
import Derived.LoopIn
import Derived.LoopNIn
import Derived.OwnWalkIn
import Derived.Laws.Bits64b
/- Pages: a nil Pager, and the law of nothing but for known. -/
namespace Go.Proofs.YtebcmicmklpflaaGreatDoor
open Go.RowKit Go.Maps
set_option linter.unusedSimpArgs false
set_option maxRecDepth 20000 in
theorem p_refusal_nil (w : World) : Calls Tryz.prog 87 #[.pointer none] w fun e w' => e = .returned (.int .i64 1) ∧ w' = w := by
  go_enter Tryz.func87, Tryz.ntmps87
  go_wp2_with fail
  go_ret
  exact ⟨rfl, rfl⟩
set_option maxRecDepth 20000 in
theorem p_drop_nil (w : World) : Calls Tryz.prog 44 #[.pointer none] w fun e w' => e = .returned (.tuple #[]) ∧ Below w.heap.size w w' := by
  go_enter Tryz.func44, Tryz.ntmps44
  go_wp2_with fail
  exact bodyPost_ret (results_none rfl _ _ _) rfl ⟨rfl, (Below.refl _ _).alloc (Nat.le_refl _) _⟩
set_option maxRecDepth 20000 in
theorem p_new_nil (w : World) : Calls Tryz.prog 40 #[.pointer none] w fun e w' => e = .returned (.tuple #[.int .i64 0, .int .i64 1]) ∧ w' = w := by
  have HR := hide (p_refusal_nil w)
  go_enter Tryz.func40, Tryz.ntmps40
  go_wp2_with fail
  refine (unhide HR).mono ?_
  rintro e w' ⟨rfl, rfl⟩
  go_wp2_with fail
  exact bodyPost_ret (by simp [results, Tryz.results40]) rfl ⟨rfl, rfl⟩
set_option maxRecDepth 20000 in
theorem p_get_nil (n : Int) (w : World) : Calls Tryz.prog 43 #[.pointer none, .int .i64 n] w fun e w' => e = .returned (.tuple #[.slice none 0 0, .int .i64 7]) ∧ w' = w := by
  go_enter Tryz.func43, Tryz.ntmps43
  go_wp2_with fail
  exact bodyPost_ret (by simp [results, Tryz.results43]) rfl ⟨rfl, rfl⟩
set_option maxRecDepth 20000 in
theorem p_count_nil (w : World) : Calls Tryz.prog 45 #[.pointer none] w fun e w' => e = .returned (.tuple #[.int .i64 0, .int .i64 0]) ∧ w' = w := by
  go_enter Tryz.func45, Tryz.ntmps45
  go_wp2_with fail
  exact bodyPost_ret (by simp [results, Tryz.results45]) rfl ⟨rfl, rfl⟩
set_option maxRecDepth 20000 in
theorem p_dirty_nil (w : World) : Calls Tryz.prog 46 #[.pointer none] w fun e w' => e = .returned (.int .i64 0) ∧ w' = w := by
  go_enter Tryz.func46, Tryz.ntmps46
  go_wp2_with fail
  go_ret
  exact ⟨rfl, rfl⟩
set_option maxRecDepth 20000 in
theorem p_put_nil (n : Int) (a : Option Addr) (l c : Nat) (w : World) : Calls Tryz.prog 41 #[.pointer none, .int .i64 n, .slice a l c] w fun e w' => e = .returned (.int .i64 1) ∧ w' = w := by
  have HR := hide (p_refusal_nil w)
  go_enter Tryz.func41, Tryz.ntmps41
  go_wp2_with fail
  refine (unhide HR).mono ?_
  rintro e w' ⟨rfl, rfl⟩
  go_wp2_with fail
  go_ret
  exact ⟨rfl, rfl⟩
set_option maxRecDepth 20000 in
theorem p_free_nil (n : Int) (w : World) : Calls Tryz.prog 42 #[.pointer none, .int .i64 n] w fun e w' => e = .returned (.int .i64 1) ∧ w' = w := by
  have HR := hide (p_refusal_nil w)
  go_enter Tryz.func42, Tryz.ntmps42
  go_wp2_with fail
  refine (unhide HR).mono ?_
  rintro e w' ⟨rfl, rfl⟩
  go_wp2_with fail
  go_ret
  exact ⟨rfl, rfl⟩
set_option maxRecDepth 20000 in
theorem p_commit_nil (w : World) : Calls Tryz.prog 38 #[.pointer none] w fun e w' => e = .returned (.int .i64 1) ∧ w' = w := by
  have HR := hide (p_refusal_nil w)
  go_enter Tryz.func38, Tryz.ntmps38
  go_wp2_with fail
  refine (unhide HR).mono ?_
  rintro e w' ⟨rfl, rfl⟩
  go_wp2_with fail
  go_ret
  exact ⟨rfl, rfl⟩
set_option maxRecDepth 20000 in
theorem p_open_nil (s : ByteArray) (w : World) : Calls Tryz.prog 35 #[.pointer none, .string s] w fun e w' => e = .returned (.tuple #[.pointer none, .int .i64 1]) ∧ w' = w := by
  have HO := hide (open_of_nil s w)
  go_enter Tryz.func35, Tryz.ntmps35
  go_wp2_with fail
  refine (unhide HO).mono ?_
  rintro e w' ⟨rfl, rfl⟩
  go_wp2_with fail
  exact bodyPost_ret (by simp [results, Tryz.results35]) rfl ⟨rfl, rfl⟩
set_option maxRecDepth 20000 in
set_option maxHeartbeats 1000000 in
/-- The law of nothing, once known answers true in every world. -/
theorem p_nothing (hk : ∀ w : World, Calls Tryz.prog 34 #[] w fun e w' => e = .returned (.bool true) ∧ Below w.heap.size w w') (n : Int) (a : Option Addr) (l c : Nat) (w : World) : Calls Tryz.prog 12 #[.int .i64 n, .slice a l c] w fun e w' => e = .returned (.bool true) ∧ Below w.heap.size w w' := by
  have HD : Hid (Calls Tryz.prog 44 #[.pointer none] w fun e w' => e = .returned (.tuple #[]) ∧ Hid (Below w.heap.size w w')) := p_drop_nil w
  have HN := hide p_new_nil
  have HG := hide (p_get_nil n)
  have HC := hide p_count_nil
  have HO := hide p_open_nil
  have HP := hide (p_put_nil n a l c)
  have HF := hide (p_free_nil n)
  have HCm := hide p_commit_nil
  have HDi := hide p_dirty_nil
  have HK : Hid (∀ w1, Below w.heap.size w w1 → Calls Tryz.prog 34 #[] w1 fun e w' => e = .returned (.bool true) ∧ Hid (Below w.heap.size w w')) := fun w1 hb => (hk w1).mono fun e w' ⟨e1, hb2⟩ => ⟨e1, hb.trans (hb2.mono hb.size)⟩
  have HB := hide (Below.refl w.heap.size w)
  clear hk
  by_cases hn : (l : Int) ≤ 12000
  · go_enter Tryz.func12, Tryz.ntmps12
    go_wp2_with fail
    refine (unhide HD).mono ?_
    rintro e w1 ⟨rfl, HB1⟩
    go_wp2_with fail
    refine (unhide HN _).mono ?_
    rintro e w' ⟨rfl, rfl⟩
    go_wp2_with fail
    refine (unhide HG _).mono ?_
    rintro e w' ⟨rfl, rfl⟩
    go_wp2_with fail
    refine (unhide HC _).mono ?_
    rintro e w' ⟨rfl, rfl⟩
    go_wp2_with fail
    refine (unhide HO _ _).mono ?_
    rintro e w' ⟨rfl, rfl⟩
    go_wp2_with fail
    refine (unhide HP _).mono ?_
    rintro e w' ⟨rfl, rfl⟩
    go_wp2_with fail
    refine (unhide HF _).mono ?_
    rintro e w' ⟨rfl, rfl⟩
    go_wp2_with fail
    refine (unhide HCm _).mono ?_
    rintro e w' ⟨rfl, rfl⟩
    go_wp2_with fail
    refine (unhide HDi _).mono ?_
    rintro e w' ⟨rfl, rfl⟩
    go_wp2_with fail
    refine (unhide HK _ (unhide HB1)).mono ?_
    rintro e w5 ⟨rfl, HB5⟩
    go_wp2_with fail
    go_ret
    exact ⟨rfl, unhide HB5⟩
  · go_enter Tryz.func12, Tryz.ntmps12
    go_wp2_with fail
    go_ret
    exact ⟨rfl, unhide HB⟩
end Go.Proofs.YtebcmicmklpflaaGreatDoor
/- Pages: words that are loaded, stored, joined and met atomically; a mark that is put. -/
namespace Go.Proofs.YtebcmicmklpflaaGreatDoor
open Go.RowKit Go.Maps
set_option linter.unusedSimpArgs false
section
variable {P : Program} {f : Nat} {fn : Func}
/-- sync/atomic.OrT, AndT: what was there is handed back. -/
theorem run_call_bits (op : BinOp) (hf : P.funcs[f]? = some fn) (hname : (fn.name == "runtime.NumGoroutine") = false) (hb : fn.body.isNone = true) (hn : Extern.findNext fn = none) (k : IntKind)
    (he : Extern.find fn = some (Extern.Atomic.update (Op.intBits op) k false)) {a : Addr} {x y s : Int} {w : World} (hc : w.cell? a = some (.int k x)) (hz : w.frozen? a = false)
    (hs : (Op.intBits op k x y).run P w = .ok (.int k s) w) :
    (callFunc f #[.pointer (some a), .int k y]).run P w = .ok (.value (.int k x)) (w.setCell a (.int k s)) := by
  rw [run_callFunc_extern hf hname hb hn he]
  change (Sem.run P (Extern.Atomic.read (.int k) a >>= fun o => asInt o >>= fun i => Op.intBits op k i y >>= fun v => store a v .atomic >>= fun _ => pure o) w).andThen _ = _
  simp [Extern.Atomic.read, asAddr, asInt, asIntOf, hc, hz, hs, run_store P w a (.int k s) .atomic rfl, Result.andThen]
end
set_option maxRecDepth 20000 in
theorem uload (a : Addr) (x : Int) (w : World) (hc : w.cell? a = some (.int .u64 x)) :
    Calls Tryz.prog 125 #[.pointer (some a)] w fun e w' => e = .returned (.int .u64 x) ∧ w' = w := by
  have hl := run_call_load (P := Tryz.prog) Tryz.func173 (by kernel_rfl) (by kernel_rfl) (by kernel_rfl) .u64 (by kernel_rfl) hc
  go_enter Tryz.func125, Tryz.ntmps125
  go_wp2
  go_ret
  exact ⟨rfl, rfl⟩
set_option maxRecDepth 20000 in
theorem ustore (a : Addr) (x y : Int) (w : World) (hc : w.cell? a = some (.int .u64 x)) (hz : w.frozen? a = false) :
    Calls Tryz.prog 128 #[.pointer (some a), .int .u64 y] w fun e w' => e = .returned (.tuple #[]) ∧ w' = w.setCell a (.int .u64 y) := by
  have hst := run_call_store (P := Tryz.prog) Tryz.func176 (by kernel_rfl) (by kernel_rfl) (by kernel_rfl) (by kernel_rfl) (k := .u64) (y := y) hc hz
  go_enter Tryz.func128, Tryz.ntmps128
  go_wp2
  go_end0
  exact ⟨rfl, rfl⟩
theorem or64 (x y : Nat) (hx : x < 2 ^ 64) (hy : y < 2 ^ 64) (w : World) : (Op.intBits .or .u64 (x : Int) (y : Int)).run Tryz.prog w = .ok (.int .u64 ((x ||| y : Nat) : Int)) w := by
  unfold Op.intBits
  simp only [Sem.run_pure]
  refine congrArg (fun v => Result.ok (Value.int .u64 v) w) ?_
  have e1 : (BitVec.ofInt IntKind.u64.bits (x : Int) ||| BitVec.ofInt IntKind.u64.bits (y : Int)).toNat = x ||| y := by
    show (BitVec.ofInt 64 (x : Int) ||| BitVec.ofInt 64 (y : Int)).toNat = x ||| y
    rw [BitVec.toNat_or, BitVec.ofInt_natCast, BitVec.ofInt_natCast, BitVec.toNat_ofNat, BitVec.toNat_ofNat, Nat.mod_eq_of_lt hx, Nat.mod_eq_of_lt hy]
  rw [e1]
  have := Nat.or_lt_two_pow hx hy
  rw [IntKind.wrap_u64]
  generalize x ||| y = z at *
  omega
set_option maxRecDepth 20000 in
theorem uor (a : Addr) (x y : Nat) (w : World) (hx : x < 2 ^ 64) (hy : y < 2 ^ 64) (hc : w.cell? a = some (.int .u64 (x : Int))) (hz : w.frozen? a = false) :
    Calls Tryz.prog 126 #[.pointer (some a), .int .u64 (y : Int)] w fun e w' => e = .returned (.int .u64 (x : Int)) ∧ w' = w.setCell a (.int .u64 ((x ||| y : Nat) : Int)) := by
  have hst := run_call_bits (P := Tryz.prog) .or Tryz.func174 (by kernel_rfl) (by kernel_rfl) (by kernel_rfl) .u64 (by kernel_rfl) hc hz (or64 x y hx hy w)
  go_enter Tryz.func126, Tryz.ntmps126
  go_wp2
  go_ret
  exact ⟨rfl, rfl⟩
theorem and64 (x y : Nat) (hx : x < 2 ^ 64) (hy : y < 2 ^ 64) (w : World) : (Op.intBits .and .u64 (x : Int) (y : Int)).run Tryz.prog w = .ok (.int .u64 ((x &&& y : Nat) : Int)) w := by
  unfold Op.intBits
  simp only [Sem.run_pure]
  refine congrArg (fun v => Result.ok (Value.int .u64 v) w) ?_
  have e1 : (BitVec.ofInt IntKind.u64.bits (x : Int) &&& BitVec.ofInt IntKind.u64.bits (y : Int)).toNat = x &&& y := by
    show (BitVec.ofInt 64 (x : Int) &&& BitVec.ofInt 64 (y : Int)).toNat = x &&& y
    rw [BitVec.toNat_and, BitVec.ofInt_natCast, BitVec.ofInt_natCast, BitVec.toNat_ofNat, BitVec.toNat_ofNat, Nat.mod_eq_of_lt hx, Nat.mod_eq_of_lt hy]
  rw [e1]
  have := (Nat.and_le_left : x &&& y ≤ x)
  rw [IntKind.wrap_u64]
  generalize x &&& y = z at *
  omega
set_option maxRecDepth 20000 in
theorem uand (a : Addr) (x y : Nat) (w : World) (hx : x < 2 ^ 64) (hy : y < 2 ^ 64) (hc : w.cell? a = some (.int .u64 (x : Int))) (hz : w.frozen? a = false) :
    Calls Tryz.prog 127 #[.pointer (some a), .int .u64 (y : Int)] w fun e w' => e = .returned (.int .u64 (x : Int)) ∧ w' = w.setCell a (.int .u64 ((x &&& y : Nat) : Int)) := by
  have hst := run_call_bits (P := Tryz.prog) .and Tryz.func175 (by kernel_rfl) (by kernel_rfl) (by kernel_rfl) .u64 (by kernel_rfl) hc hz (and64 x y hx hy w)
  go_enter Tryz.func127, Tryz.ntmps127
  go_wp2
  go_ret
  exact ⟨rfl, rfl⟩
theorem wrap_pow (n : Nat) : IntKind.u64.wrap ((2 : Int) ^ (n % 64)) = ((2 ^ (n % 64) : Nat) : Int) := by
  rw [IntKind.wrap_u64]
  have h : 2 ^ (n % 64) < 2 ^ 64 := Nat.pow_lt_pow_right (by omega) (by omega)
  have e : ((2 : Int) ^ (n % 64)) = ((2 ^ (n % 64) : Nat) : Int) := by simp
  rw [e]
  generalize 2 ^ (n % 64) = z at *
  omega
theorem not_pow (z : Nat) (hz : z < 2 ^ 64) : bits BinOp.xor IntKind.u64 IntKind.u64.max (z : Int) = ((2 ^ 64 - 1 - z : Nat) : Int) := by
  have e : (BitVec.ofInt 64 IntKind.u64.max ^^^ BitVec.ofInt 64 (z : Int)).toNat = 2 ^ 64 - 1 - z := by
    rw [show BitVec.ofInt 64 IntKind.u64.max = BitVec.allOnes 64 by decide, BitVec.allOnes_xor, BitVec.toNat_not, BitVec.ofInt_natCast, BitVec.toNat_ofNat, Nat.mod_eq_of_lt hz]
  show IntKind.u64.wrap (((BitVec.ofInt 64 IntKind.u64.max ^^^ BitVec.ofInt 64 (z : Int)).toNat : Nat) : Int) = _
  rw [e, IntKind.wrap_u64]
  omega
set_option maxRecDepth 20000 in
set_option maxHeartbeats 1000000 in
theorem mput_on (g o n x : Nat) (w : World) (hn : n < 16384) (hx : x < 2 ^ 64) (hc : w.cell? ⟨g, o + n / 64, none⟩ = some (.int .u64 (x : Int))) (hz : w.frozen? ⟨g, o + n / 64, none⟩ = false) :
    Calls Tryz.prog 93 #[.pointer (some ⟨g, o, none⟩), .int .i64 (n : Int), .bool true] w fun e w' => e = .returned (.tuple #[]) ∧ w' = w.setCell ⟨g, o + n / 64, none⟩ (.int .u64 ((x ||| 2 ^ (n % 64) : Nat) : Int)) := by
  have HU := hide (uor ⟨g, o + n / 64, none⟩ x (2 ^ (n % 64)) w hx (Nat.pow_lt_pow_right (by omega) (by omega)) hc hz)
  go_enter Tryz.func93, Tryz.ntmps93
  go_wp2_with fail
  rw [wrap_pow n]
  refine (unhide HU).mono ?_
  rintro e w' ⟨rfl, rfl⟩
  go_wp2_with fail
  go_end0
  exact ⟨rfl, rfl⟩
set_option maxRecDepth 20000 in
set_option maxHeartbeats 1000000 in
theorem mput_off (g o n x : Nat) (w : World) (hn : n < 16384) (hx : x < 2 ^ 64) (hc : w.cell? ⟨g, o + n / 64, none⟩ = some (.int .u64 (x : Int))) (hz : w.frozen? ⟨g, o + n / 64, none⟩ = false) :
    Calls Tryz.prog 93 #[.pointer (some ⟨g, o, none⟩), .int .i64 (n : Int), .bool false] w fun e w' => e = .returned (.tuple #[]) ∧ w' = w.setCell ⟨g, o + n / 64, none⟩ (.int .u64 ((x &&& (2 ^ 64 - 1 - 2 ^ (n % 64)) : Nat) : Int)) := by
  have HU := hide (uand ⟨g, o + n / 64, none⟩ x (2 ^ 64 - 1 - 2 ^ (n % 64)) w hx (Nat.lt_of_le_of_lt (Nat.sub_le _ _) (by omega)) hc hz)
  go_enter Tryz.func93, Tryz.ntmps93
  go_wp2_with fail
  rw [wrap_pow n, not_pow _ (Nat.pow_lt_pow_right (by omega) (by omega))]
  refine (unhide HU).mono ?_
  rintro e w' ⟨rfl, rfl⟩
  go_wp2_with fail
  go_end0
  exact ⟨rfl, rfl⟩
end Go.Proofs.YtebcmicmklpflaaGreatDoor
/- Pages: all marks taken away. -/
namespace Go.Proofs.YtebcmicmklpflaaGreatDoor
open Go.RowKit Go.Maps
set_option linter.unusedSimpArgs false
/-- The first words of a row set to nothing. -/
def zer (w : World) (g o : Nat) : Nat → World
  | 0 => w
  | k + 1 => (zer w g o k).setCell ⟨g, o + k, none⟩ (.int .u64 0)
theorem zer_later (w : World) (g o : Nat) : ∀ (k j : Nat), k ≤ j → (zer w g o k).cell? ⟨g, o + j, none⟩ = w.cell? ⟨g, o + j, none⟩
  | 0, _, _ => rfl
  | k + 1, j, h => by
    show ((zer w g o k).setCell ⟨g, o + k, none⟩ (.int .u64 0)).cell? ⟨g, o + j, none⟩ = _
    rw [World.cell?_setCell_other _ _ _ _ (fun e => by injection e with _ e _; omega)]
    exact zer_later w g o k j (by omega)
theorem zer_frozen (w : World) (g o : Nat) (a : Addr) : ∀ k, (zer w g o k).frozen? a = w.frozen? a
  | 0 => rfl
  | k + 1 => by
    show ((zer w g o k).setCell ⟨g, o + k, none⟩ (.int .u64 0)).frozen? a = _
    rw [← zer_frozen w g o a k]
    simp
set_option maxRecDepth 20000 in
set_option maxHeartbeats 1000000 in
theorem mclear_ok (g o : Nat) (w : World) (hc : ∀ k, k < 256 → ∃ x : Int, w.cell? ⟨g, o + k, none⟩ = some (.int .u64 x)) (hz : ∀ k, w.frozen? ⟨g, k, none⟩ = false) :
    Calls Tryz.prog 94 #[.pointer (some ⟨g, o, none⟩)] w fun e w' => e = .returned (.tuple #[]) ∧ w' = zer w g o 256 := by
  have HS : Hid (∀ i, i < 256 → Calls Tryz.prog 128 #[.pointer (some ⟨g, o + i, none⟩), .int .u64 0] (zer w g o i) fun e w' => e = .returned (.tuple #[]) ∧ w' = zer w g o (i + 1)) := fun i hi => by
    obtain ⟨x, hx⟩ := hc i hi
    exact ustore ⟨g, o + i, none⟩ x 0 _ ((zer_later w g o i i (Nat.le_refl _)).trans hx) (by rw [zer_frozen]; exact hz _)
  clear hc hz
  go_enter Tryz.func94, Tryz.ntmps94
  go_wp2_with fail
  go_loopw [3] (fun iv wr => ∃ i : Nat, i ≤ 256 ∧ iv = .int .i64 (i : Int) ∧ wr = zer w g o i) (fun iv _ => 256 - (intOf iv).toNat)
  case atStart => exact ⟨0, Nat.zero_le _, rfl, rfl⟩
  case round =>
    obtain ⟨i, hi, rfl, rfl⟩ := hrel
    by_cases hlt : i < 256
    · have hk : (i : Int) < 256 := by omega
      go_wp2_with fail
      refine (unhide HS i hlt).mono ?_
      rintro e w' ⟨rfl, rfl⟩
      go_wp2_with fail
      refine ⟨⟨i + 1, by omega, by simp, rfl⟩, ?_⟩
      simp [intOf]; omega
    · have hk : ¬ ((i : Int) < 256) := by omega
      obtain rfl : i = 256 := by omega
      go_wp2_with fail
      go_end0
      exact ⟨rfl, rfl⟩
end Go.Proofs.YtebcmicmklpflaaGreatDoor
/- Pages: marks as mathematics: a set of numbers as words of 64 digits. -/
namespace Go.Proofs.YtebcmicmklpflaaGreatDoor
open Go.RowKit Go.Maps
set_option linter.unusedSimpArgs false
/-- The first digits of the word of a sheet. -/
def wrd (s : Nat → Bool) (k : Nat) : Nat → Nat
  | 0 => 0
  | i + 1 => wrd s k i + (if s (64 * k + i) then 2 ^ i else 0)
def word (s : Nat → Bool) (k : Nat) : Nat := wrd s k 64
theorem wrd_lt (s : Nat → Bool) (k : Nat) : ∀ m, wrd s k m < 2 ^ m
  | 0 => by simp [wrd]
  | m + 1 => by
    have := wrd_lt s k m
    simp only [wrd, Nat.pow_succ]
    split <;> omega
theorem word_lt (s : Nat → Bool) (k : Nat) : word s k < 2 ^ 64 := wrd_lt s k 64
theorem wrd_bit (s : Nat → Bool) (k : Nat) : ∀ m i, (wrd s k m).testBit i = (decide (i < m) && s (64 * k + i))
  | 0, i => by simp [wrd]
  | m + 1, i => by
    have hlt := wrd_lt s k m
    have ih := wrd_bit s k m i
    simp only [wrd]
    by_cases hs : s (64 * k + m) = true
    · rw [if_pos hs, Nat.add_comm]
      rcases Nat.lt_trichotomy i m with h | h | h
      · rw [Nat.testBit_two_pow_add_gt h, ih]
        simp [h, Nat.lt_succ_of_lt h]
      · subst h
        rw [Nat.testBit_two_pow_add_eq, ih]
        simp [hs]
      · have h1 : 2 ^ m + wrd s k m < 2 ^ (m + 1) := by rw [Nat.pow_succ]; omega
        have h2 : 2 ^ (m + 1) ≤ 2 ^ i := Nat.pow_le_pow_right (by omega) h
        rw [Nat.testBit_lt_two_pow (Nat.lt_of_lt_of_le h1 h2)]
        simp [show ¬ i < m + 1 by omega]
    · have hs' : s (64 * k + m) = false := by simpa using hs
      rw [if_neg hs, Nat.add_zero, ih]
      rcases Nat.lt_trichotomy i m with h | h | h
      · simp [h, Nat.lt_succ_of_lt h]
      · subst h; simp [hs']
      · simp [show ¬ i < m by omega, show ¬ i < m + 1 by omega]
theorem word_bit (s : Nat → Bool) (k i : Nat) : (word s k).testBit i = (decide (i < 64) && s (64 * k + i)) := wrd_bit s k 64 i
theorem word_ext {s t : Nat → Bool} {k : Nat} (h : ∀ i, i < 64 → s (64 * k + i) = t (64 * k + i)) : word s k = word t k := by
  refine Nat.eq_of_testBit_eq fun i => ?_
  rw [word_bit, word_bit]
  by_cases hi : i < 64
  · rw [h i hi]
  · simp [hi]
def mset (s : Nat → Bool) (n : Nat) (b : Bool) : Nat → Bool := fun j => if j = n then b else s j
theorem word_on (s : Nat → Bool) (n : Nat) : word (mset s n true) (n / 64) = word s (n / 64) ||| 2 ^ (n % 64) := by
  refine Nat.eq_of_testBit_eq fun i => ?_
  rw [Nat.testBit_or, word_bit, word_bit, Nat.testBit_two_pow]
  simp only [mset]
  by_cases hi : i < 64
  · by_cases hn : n % 64 = i
    · have : 64 * (n / 64) + i = n := by omega
      simp [hi, hn, this]
    · have : 64 * (n / 64) + i ≠ n := by omega
      simp [hi, hn, this]
  · have : n % 64 ≠ i := by omega
    simp [hi, this]
theorem word_off (s : Nat → Bool) (n : Nat) : word (mset s n false) (n / 64) = word s (n / 64) &&& (2 ^ 64 - 1 - 2 ^ (n % 64)) := by
  refine Nat.eq_of_testBit_eq fun i => ?_
  have hp : 2 ^ (n % 64) < 2 ^ 64 := Nat.pow_lt_pow_right (by omega) (by omega)
  rw [Nat.testBit_and, word_bit, word_bit, show 2 ^ 64 - 1 - 2 ^ (n % 64) = 2 ^ 64 - (2 ^ (n % 64) + 1) by omega, Nat.testBit_two_pow_sub_succ hp, Nat.testBit_two_pow]
  simp only [mset]
  by_cases hi : i < 64
  · by_cases hn : n % 64 = i
    · have : 64 * (n / 64) + i = n := by omega
      simp [hi, hn, this]
    · have : 64 * (n / 64) + i ≠ n := by omega
      simp [hi, hn, this]
  · simp [hi]
theorem word_else (s : Nat → Bool) (n k : Nat) (b : Bool) (h : k ≠ n / 64) : word (mset s n b) k = word s k := by
  refine word_ext fun i hi => ?_
  have : 64 * k + i ≠ n := by omega
  simp [mset, this]
/-- The digits of a word from a place on. -/
def fromD (s : Nat → Bool) (j : Nat) : Nat → Bool := fun x => s x && decide (j ≤ x)
theorem word_zero {s : Nat → Bool} {k : Nat} (h : ∀ i, i < 64 → s (64 * k + i) = false) : word s k = 0 := by
  refine Nat.eq_of_testBit_eq fun i => ?_
  rw [word_bit]
  by_cases hi : i < 64
  · simp [h i hi]
  · simp [hi]
theorem word_ne {s : Nat → Bool} {k i : Nat} (hi : i < 64) (h : s (64 * k + i) = true) : word s k ≠ 0 := by
  intro e
  have := word_bit s k i
  rw [e] at this
  simp [hi, h] at this
/-- The least digit of a word, and the word without it. -/
theorem low_bit {x i : Nat} (hi : x.testBit i = true) (hl : ∀ j, j < i → x.testBit j = false) : ∃ m, x = 2 ^ i * (2 * m + 1) := by
  have h0 : x % 2 ^ i = 0 := by
    refine Nat.eq_of_testBit_eq fun j => ?_
    rw [Nat.testBit_mod_two_pow]
    by_cases hj : j < i
    · simp [hl j hj]
    · simp [hj]
  have h1 : x = 2 ^ i * (x / 2 ^ i) := by
    have := Nat.div_add_mod x (2 ^ i)
    omega
  have h2 : (x / 2 ^ i) % 2 = 1 := by
    have := hi
    rw [Nat.testBit_eq_decide_div_mod_eq] at this
    simpa using this
  refine ⟨x / 2 ^ i / 2, ?_⟩
  rw [show 2 * (x / 2 ^ i / 2) + 1 = x / 2 ^ i by omega]
  exact h1
theorem low_ctz {x i : Nat} (hx : x < 2 ^ 64) (hi : x.testBit i = true) (hl : ∀ j, j < i → x.testBit j = false) : Lib.ctz 64 x = i := by
  obtain ⟨m, e⟩ := low_bit hi hl
  have h0 : 0 < x := by
    rcases Nat.eq_zero_or_pos x with h | h
    · rw [h] at hi; simp at hi
    · exact h
  obtain ⟨m2, e2, h2⟩ := Lib.ctzFrom_spec 64 x h0 hx
  unfold Lib.ctz
  rw [if_neg (by omega)]
  generalize Lib.ctzFrom 64 x = c at *
  have bit : ∀ a b : Nat, (2 ^ a * (2 * b + 1)).testBit a = true := fun a b => by
    rw [Nat.testBit_eq_decide_div_mod_eq, Nat.mul_div_cancel_left _ (Nat.two_pow_pos a)]
    simp
  have low : ∀ a b j : Nat, j < a → (2 ^ a * (2 * b + 1)).testBit j = false := fun a b j hj => by
    rw [Nat.testBit_two_pow_mul]
    simp; omega
  rcases Nat.lt_trichotomy c i with h | h | h
  · have := hl c h
    rw [e2, bit] at this
    cases this
  · exact h
  · rw [e2, low _ _ _ h] at hi
    cases hi
theorem low_off {x i : Nat} (hi : x.testBit i = true) (hl : ∀ j, j < i → x.testBit j = false) (j : Nat) : (x &&& (x - 1)).testBit j = (x.testBit j && decide (j ≠ i)) := by
  obtain ⟨m, e⟩ := low_bit hi hl
  have e1 : x - 1 = 2 ^ (i + 1) * m + (2 ^ i - 1) := by
    rw [e, Nat.pow_succ]
    have := Nat.two_pow_pos i
    have h2 : 2 ^ i * (2 * m + 1) = 2 ^ i * 2 * m + 2 ^ i := by rw [Nat.mul_add, Nat.mul_one, Nat.mul_assoc]
    omega
  have e2 : x = 2 ^ (i + 1) * m + 2 ^ i := by rw [e, Nat.pow_succ, Nat.mul_add, Nat.mul_one, Nat.mul_assoc]
  have hb : 2 ^ i < 2 ^ (i + 1) := by rw [Nat.pow_succ]; have := Nat.two_pow_pos i; omega
  rw [Nat.testBit_and, e1, e2, Nat.testBit_two_pow_mul_add _ (show 2 ^ i - 1 < 2 ^ (i + 1) by omega), Nat.testBit_two_pow_mul_add _ hb]
  by_cases hj : j < i + 1
  · simp only [hj, if_true, Nat.testBit_two_pow, Nat.testBit_two_pow_sub_one]
    by_cases h1 : j = i
    · subst h1; simp
    · simp [h1, show j < i by omega, show ¬ i = j by omega]
  · simp only [hj, if_false]
    simp [show j ≠ i by omega]
/-- One step through a word: its least digit stands at i, and behind it the word has what is above. -/
theorem from_step {s : Nat → Bool} {k j i : Nat} (hj : j ≤ i) (hi : i < 64) (hs : s (64 * k + i) = true) (hno : ∀ x, j ≤ x → x < i → s (64 * k + x) = false) :
    Lib.ctz 64 (word (fromD s (64 * k + j)) k) = i ∧ word (fromD s (64 * k + j)) k &&& (word (fromD s (64 * k + j)) k - 1) = word (fromD s (64 * k + (i + 1))) k := by
  have hbit : (word (fromD s (64 * k + j)) k).testBit i = true := by rw [word_bit]; simp [fromD, hi, hs, hj]
  have hlow : ∀ x, x < i → (word (fromD s (64 * k + j)) k).testBit x = false := fun x hx => by
    rw [word_bit]
    by_cases h : j ≤ x
    · simp [fromD, hno x h hx]
    · simp [fromD, show ¬ (64 * k + j ≤ 64 * k + x) by omega]
  refine ⟨low_ctz (word_lt _ _) hbit hlow, Nat.eq_of_testBit_eq fun x => ?_⟩
  rw [low_off hbit hlow, word_bit, word_bit]
  simp only [fromD]
  by_cases hx : x < 64
  · rcases Nat.lt_trichotomy x i with h | h | h
    · by_cases h2 : j ≤ x
      · simp [hno x h2 h]
      · simp [show ¬ (64 * k + j ≤ 64 * k + x) by omega, show ¬ (64 * k + (i + 1) ≤ 64 * k + x) by omega]
    · subst h; simp
    · have h1 : j ≤ x := by omega
      have h3 : i + 1 ≤ x := h
      simp [h1, h3, show x ≠ i by omega]
  · simp [hx]
end Go.Proofs.YtebcmicmklpflaaGreatDoor
/- A loop over an iterator that may be left early, whatever its round does: its law. -/
namespace Go.Proofs.YtebcmicmklpflaaGreatDoor
open Go.RowKit Go.Shelf Go.Great
set_option linter.unusedSimpArgs false
/-- What an iterator's own doings leave: all that was there ahead of base, but for blocks of its own. -/
structure Its (base : Nat) (Bd : Nat → Prop) (W W' : World) : Prop where
  os : W'.os = W.os
  tape : W'.tape = W.tape
  output : W'.output = W.output
  size : W.heap.size ≤ W'.heap.size
  block : ∀ q, q < base → q < W.heap.size → ¬ Bd q → W'.heap[q]? = W.heap[q]?
theorem Its.refl (base : Nat) (Bd : Nat → Prop) (W : World) : Its base Bd W W := ⟨rfl, rfl, rfl, Nat.le_refl _, fun _ _ _ _ => rfl⟩
theorem Its.of_below {base : Nat} {Bd : Nat → Prop} {W W' : World} (h : Below W.heap.size W W') : Its base Bd W W' := ⟨h.os, h.tape, h.output, h.size, fun q _ hq _ => h.block q hq⟩
theorem Its.mono {base base' : Nat} {Bd Bd' : Nat → Prop} {W W' : World} (h : Its base' Bd' W W') (hb : base ≤ base') (hd : ∀ q, q < base → Bd' q → Bd q) : Its base Bd W W' :=
  ⟨h.os, h.tape, h.output, h.size, fun q h1 h2 h3 => h.block q (by omega) h2 (fun h4 => h3 (hd q h1 h4))⟩
theorem Its.put {base : Nat} {Bd : Nat → Prop} (W : World) {r : Nat} (o : Obj) (h : base ≤ r ∨ Bd r) : Its base Bd W (W.putObj r o) :=
  ⟨rfl, rfl, rfl, by simp, fun q h1 _ h3 => World.putObj_heap_other (fun e => by subst e; exact h.elim (fun h => by omega) h3)⟩
theorem Its.trans {base : Nat} {Bd : Nat → Prop} {A B C : World} (h : Its base Bd A B) (k : Its base Bd B C) : Its base Bd A C :=
  ⟨k.os.trans h.os, k.tape.trans h.tape, k.output.trans h.output, Nat.le_trans h.size k.size, fun q h1 h2 h3 => (k.block q h1 (Nat.lt_of_lt_of_le h2 h.size) h3).trans (h.block q h1 h2 h3)⟩
theorem Its.drew (base : Nat) (Bd : Nat → Prop) (W : World) : Its base Bd W W.drew := ⟨rfl, rfl, rfl, Nat.le_refl _, fun _ _ _ _ => rfl⟩
theorem Its.set {base : Nat} {Bd : Nat → Prop} (W : World) (a : Addr) (v : Value) (h : base ≤ a.block ∨ Bd a.block) : Its base Bd W (W.setCell a v) :=
  ⟨rfl, rfl, rfl, by simp, fun q h1 _ h3 => Below.heap_setCell W a v q (fun e => by subst e; exact h.elim (fun h => by omega) h3)⟩
theorem roundIn_wide {m m' : Nat} {P : Program} {l : Nat} {f : FuncId} {tmps : Array Value} {assign body : Code} {w : World} {R : Ending → World → Prop} (h : RoundIn Fence.wide m P l f tmps assign body w R) : RoundIn Fence.wide m' P l f tmps assign body w R :=
  ⟨h.1, fun c cs _ => h.2 c cs (fun d hd => by simp [Fence.wide] at hd)⟩
theorem yieldAt_wide {m m' : Nat} {P : Program} {l : Nat} {args : Array Value} {W : World} {R : Ending → World → Prop} (h : YieldAt Fence.wide m P l args W R) : YieldAt Fence.wide m' P l args W R := by
  obtain ⟨fn, tmps, assign, body, h1, h2⟩ := h
  exact ⟨fn, tmps, assign, body, h1, roundIn_wide h2⟩
/-- An iterator g, with what it has bound, yields these numbers in this order, till a round says no. Bd: blocks of its own ahead of base; Rd: what it reads. -/
def Iter (g : FuncId) (lb : Array Value) (xs : List Nat) (Bd : Nat → Prop) (Rd : World → Prop) (W0 : World) : Prop :=
  ∀ (n l base : Nat) (J : Nat → World → Prop) (Z : World → Prop) (W : World), W0.heap.size ≤ base → base = W.heap.size →
    (∀ q, Bd q → q < base ∧ W.heap[q]? = W0.heap[q]?) → (∀ i V, J i V → Rd V) → J 0 W →
    (∀ i V V', J i V → Its base Bd V V' → J i V') → (∀ V V', Z V → Its base Bd V V' → Z V') →
    (∀ i V (hi : i < xs.length), J i V → W.heap.size ≤ V.heap.size → YieldAt Fence.wide (n - 1) Tryz.prog l #[.int .i64 (xs[i] : Int)] V fun e V' =>
      V.heap.size ≤ V'.heap.size ∧ (∀ q, base ≤ q → q < V.heap.size → V'.heap[q]? = V.heap[q]?) ∧ (∀ q, Bd q → V'.heap[q]? = V.heap[q]?) ∧ (e = .returned (.bool true) ∧ J (i + 1) V' ∨ e = .returned (.bool false) ∧ Z V')) →
    CallsIn Fence.wide n Tryz.prog g (#[.func (.yield l) #[] #[]] ++ lb) W fun e V => (∃ v, e = .returned v) ∧ (J xs.length V ∨ Z V)
/-- How a round may leave the loop early. -/
structure Leave (jc : Code) (je : Exit) : Prop where
  ne : je ≠ .normal
  post : ∀ (P : Program) (l : Nat) (R : Ending → World → Prop) (a : Act) (w : World), (∃ v w', (Instr.endRound l (some jc)).run P w = .ok v w' ∧ R (.returned v) w') → roundPost P l R je a w
  walk : ∀ (F : Fence) (n : Nat) (P : Program) (Q : Exit → Act → World → Prop) (a : Act) (w : World), Q je a w → jc.wpIn F n P Q a w
theorem Leave.ret : Leave .ret .ret := ⟨by simp, fun _ _ _ _ _ h => h, fun _ _ _ _ _ _ h => wpIn_ret h⟩
theorem Leave.exit (id : Nat) : Leave (.exit id) (.exit id) := ⟨by simp, fun _ _ _ _ _ h => h, fun _ _ _ _ _ _ h => wpIn_exit h⟩
set_option maxRecDepth 20000 in
theorem range_iter {assign body : Code} {Q : Exit → Act → World → Prop} {b : Act} {W0 : World} {fid : FuncId} {lb : Array Value} {xs : List Nat} {Bd : Nat → Prop} {Rd : World → Prop} {g : Operand} {p : Tmp} {jc : Code} {je : Exit} {N : Nat}
    (hI : Iter fid lb xs Bd Rd W0) (hE : Enters fid) (hL : Leave jc je) (a1 : Nat → Act) (J : Nat → World → Prop) (Z : World → Prop)
    (hg : b.eval g = .func (.func fid) #[] lb) (hBd : ∀ q, Bd q → q < W0.heap.size)
    (hRd : ∀ i V, J i V → Rd V) (h0 : J 0 W0)
    (hup : ∀ i V V', J i V → Its W0.heap.size Bd V V' → J i V') (hupZ : ∀ V V', Z V → Its W0.heap.size Bd V V' → Z V')
    (hassign : ∀ (l x : Nat) (W : World) (K : Act → World → Prop), K (a1 x) W → assign.wpIn (Fence.wide.inRound l) (N - 1 - 1) Tryz.prog (Exit.then K (fun _ _ _ => False)) { tmps := (#[p].zip #[Value.int .i64 (x : Int)]).foldl (fun t (p, v) => t.setIfInBounds p v) b.tmps, defers := [] } W)
    (hbody : ∀ (l i : Nat) (V : World) (R : Exit → Act → World → Prop) (hi : i < xs.length), J i V → W0.heap.size + 1 < V.heap.size →
      (∀ e a' V', V.heap.size ≤ V'.heap.size → (∀ q, W0.heap.size ≤ q → q < V.heap.size → V'.heap[q]? = V.heap[q]?) → (∀ q, Bd q → V'.heap[q]? = V.heap[q]?) → (e = .normal ∧ J (i + 1) V' ∨ e = je ∧ Z V') → R e a' V') →
      body.wpIn (Fence.wide.inRound l) (N - 1 - 1) Tryz.prog R (a1 xs[i]) V)
    (hdone : ∀ (V : World), J xs.length V → V.heap[W0.heap.size]? = some (.deferred (some [])) → W0.heap.size + 1 < V.heap.size → Q .normal { b with defers := { target := .collected W0.heap.size, args := #[] } :: b.defers } V)
    (hleft : ∀ (V : World), Z V → V.heap[W0.heap.size]? = some (.deferred (some [])) → W0.heap.size + 1 < V.heap.size → Q je { b with defers := { target := .collected W0.heap.size, args := #[] } :: b.defers } V) :
    (Code.rangeFunc g #[p] assign body).wpIn Fence.wide N Tryz.prog Q b W0 := by
  refine wpIn_rangeFunc ?_
  intro fn hfn
  obtain ⟨rc, hrc⟩ : ∃ rc : LoopState → Option Code → Loop, rc = fun st pe => { state := st, pending := pe, fn, tmps := b.tmps, params := #[p], assign, body, defers := W0.heap.size } := ⟨_, rfl⟩
  obtain ⟨W1, hW1⟩ : ∃ W1, (W0.alloc (.deferred (some []))).alloc (.loop (rc .ready none)) = W1 := ⟨_, rfl⟩
  have hb1 : Below W0.heap.size W0 W1 := by rw [← hW1]; exact ((Below.refl _ _).alloc (Nat.le_refl _) _).alloc (by simp) _
  have hsz1 : W1.heap.size = W0.heap.size + 1 + 1 := by rw [← hW1]; simp
  have hd1 : W1.heap[W0.heap.size]? = some (.deferred (some [])) := by rw [← hW1]; exact (Below.heap_alloc _ _ _ (by simp)).trans (World.alloc_heap_new W0 _)
  have hl1 : W1.heap[W0.heap.size + 1]? = some (.loop (rc .ready none)) := by rw [← hW1]; have := World.alloc_heap_new (W0.alloc (.deferred (some []))) (.loop (rc .ready none)); rwa [World.size_alloc] at this
  refine ⟨W0.heap.size + 1, [{ target := .collected W0.heap.size, args := #[] }], W1, { target := .fn (.func fid) lb, args := #[.func (.yield (W0.heap.size + 1)) #[] #[]] }, W1, fid, #[.func (.yield (W0.heap.size + 1)) #[] #[]] ++ lb, W1, ?_, ?_, fun _ _ => trivial, ?_, fun h => by simp [Fence.wide] at h, ?_⟩
  · rw [← hW1, hrc]; exact run_enterLoop_outer _ _ _ _ _
  · simp only [resolve, hg]
    simp [go_sem]
  · simp only [invoke]
    exact hE _ _
  have hne : ∀ {V : World}, V.heap.size ≤ V.heap.size := Nat.le_refl _
  refine CallsIn.mono (hI (N - 1) (W0.heap.size + 1) W1.heap.size
    (fun i V => J i V ∧ V.heap[W0.heap.size]? = some (.deferred (some [])) ∧ V.heap[W0.heap.size + 1]? = some (.loop (rc .ready none)))
    (fun V => Z V ∧ V.heap[W0.heap.size]? = some (.deferred (some [])) ∧ V.heap[W0.heap.size + 1]? = some (.loop (rc .done (some jc)))) W1 (by omega) rfl
    (fun q hq => ⟨by have := hBd q hq; omega, hb1.block q (hBd q hq)⟩) (fun i V h => hRd i V h.1) ⟨hup _ _ _ h0 (Its.of_below hb1), hd1, hl1⟩ ?_ ?_ ?_) ?_
  · rintro i V V' ⟨h1, h2, h3⟩ hb
    refine ⟨hup _ _ _ h1 (hb.mono (by omega) (fun _ _ h => h)), ?_, ?_⟩
    · rw [hb.block _ (by omega) (Array.getElem?_eq_some_iff.1 h2).1 (fun h => by have := hBd _ h; omega)]; exact h2
    · rw [hb.block _ (by omega) (Array.getElem?_eq_some_iff.1 h3).1 (fun h => by have := hBd _ h; omega)]; exact h3
  · rintro V V' ⟨h1, h2, h3⟩ hb
    refine ⟨hupZ _ _ h1 (hb.mono (by omega) (fun _ _ h => h)), ?_, ?_⟩
    · rw [hb.block _ (by omega) (Array.getElem?_eq_some_iff.1 h2).1 (fun h => by have := hBd _ h; omega)]; exact h2
    · rw [hb.block _ (by omega) (Array.getElem?_eq_some_iff.1 h3).1 (fun h => by have := hBd _ h; omega)]; exact h3
  · rintro i V hi ⟨h1, h2, h3⟩ hszV
    have hlt := (Array.getElem?_eq_some_iff.1 h3).1
    have hy := run_yield (P := Tryz.prog) (args := #[.int .i64 (xs[i] : Int)]) h3 (by rw [hrc]; rfl)
    rw [hrc] at hy
    refine ⟨fn, _, assign, body, hy, roundIn_of_wpIn hfn (hassign _ xs[i] V _ ⟨_, run_beginRound h3 (by rw [hrc]), ?_⟩)⟩
    have hputs : ∀ (X : World) r', (X.putObj (W0.heap.size + 1) (.loop r')).heap.size = X.heap.size := fun X r' => by simp [World.putObj]
    have hJ := hup i V _ h1 (Its.put V (r := W0.heap.size + 1) (.loop { rc .ready none with state := .busy }) (.inl (by omega)))
    refine hbody _ i _ _ hi hJ (by rw [hputs]; exact hlt) (fun e a' V' hs4 hk4 hd4 hz => ?_)
    rw [hputs] at hs4 hk4
    have hlt' : W0.heap.size + 1 < V'.heap.size := by omega
    have hl4 : V'.heap[W0.heap.size + 1]? = some (.loop { rc .ready none with state := .busy }) := by rw [hk4 _ (by omega) hlt]; exact World.putObj_heap_same hlt
    have hrest : ∀ (r' : Loop), V.heap.size ≤ (V'.putObj (W0.heap.size + 1) (.loop r')).heap.size ∧ (∀ q, W1.heap.size ≤ q → q < V.heap.size → (V'.putObj (W0.heap.size + 1) (.loop r')).heap[q]? = V.heap[q]?) ∧ (∀ q, Bd q → (V'.putObj (W0.heap.size + 1) (.loop r')).heap[q]? = V.heap[q]?) := fun r' => by
      refine ⟨by rw [hputs]; exact hs4, fun q h5 h6 => ?_, fun q h5 => ?_⟩
      · rw [World.putObj_heap_other (by omega), hk4 q (by omega) h6, World.putObj_heap_other (by omega)]
      · have := hBd q h5
        rw [World.putObj_heap_other (by omega), hd4 q h5, World.putObj_heap_other (by omega)]
    have hdef : ∀ (r' : Loop), (V'.putObj (W0.heap.size + 1) (.loop r')).heap[W0.heap.size]? = some (.deferred (some [])) := fun r' => by
      rw [World.putObj_heap_other (by omega), hk4 _ (Nat.le_refl _) (by omega), World.putObj_heap_other (by omega)]; exact h2
    rcases hz with ⟨rfl, hz⟩ | ⟨rfl, hz⟩
    · refine ⟨_, _, run_endRound none hl4, (hrest _).1, (hrest _).2.1, (hrest _).2.2, .inl ⟨rfl, hup _ _ _ hz (Its.put _ _ (.inl (by omega))), hdef _, ?_⟩⟩
      have := World.putObj_heap_same (w := V') (o := .loop (rc .ready none)) hlt'
      rw [hrc] at this ⊢; exact this
    · refine hL.post _ _ _ _ _ ⟨_, _, run_endRound (some jc) hl4, (hrest _).1, (hrest _).2.1, (hrest _).2.2, .inr ⟨rfl, hupZ _ _ hz (Its.put _ _ (.inl (by omega))), hdef _, ?_⟩⟩
      have := World.putObj_heap_same (w := V') (o := .loop (rc .done (some jc))) hlt'
      rw [hrc] at this ⊢; exact this
  · rintro e V2 ⟨⟨v, rfl⟩, ⟨h1, h2, h3⟩ | ⟨h1, h2, h3⟩⟩
    · have hlt := (Array.getElem?_eq_some_iff.1 h3).1
      exact ⟨none, _, by have := run_endLoop (P := Tryz.prog) h3 (by rw [hrc]; simp); rw [hrc] at this; exact this, hdone _ (hup _ _ _ h1 (Its.put _ _ (.inl (by omega)))) (by rw [World.putObj_heap_other (by omega)]; exact h2) (by simpa [World.putObj] using hlt)⟩
    · have hlt := (Array.getElem?_eq_some_iff.1 h3).1
      refine ⟨some jc, _, by have := run_endLoop (P := Tryz.prog) h3 (by rw [hrc]; simp); rw [hrc] at this; exact this, hL.walk _ _ _ _ _ _ (hleft _ (hupZ _ _ h1 (Its.put _ _ (.inl (by omega)))) (by rw [World.putObj_heap_other (by omega)]; exact h2) (by simpa [World.putObj] using hlt))⟩
end Go.Proofs.YtebcmicmklpflaaGreatDoor
/- Pages: the digits of a word, one behind the other: the iterator marked. -/
namespace Go.Proofs.YtebcmicmklpflaaGreatDoor
open Go.RowKit Go.Shelf Go.Great
attribute [local go_sem] Oper.semAt_some
set_option linter.unusedSimpArgs false
/-- The numbers of a set, rising: n of them looked at from a on. -/
def lst (s : Nat → Bool) (a : Nat) : Nat → List Nat
  | 0 => []
  | n + 1 => if s a then a :: lst s (a + 1) n else lst s (a + 1) n
theorem lst_append (s : Nat → Bool) : ∀ (m a n : Nat), lst s a (m + n) = lst s a m ++ lst s (a + m) n
  | 0, a, n => by simp [lst]
  | m + 1, a, n => by
    rw [show m + 1 + n = (m + n) + 1 by omega]
    simp only [lst]
    rw [lst_append s m (a + 1) n, show a + 1 + m = a + (m + 1) by omega]
    split <;> simp
theorem lst_cases (s : Nat → Bool) : ∀ (n a : Nat), (lst s a n = [] ∧ ∀ x, a ≤ x → x < a + n → s x = false) ∨
    ∃ m, m < n ∧ s (a + m) = true ∧ (∀ x, a ≤ x → x < a + m → s x = false) ∧ lst s a n = (a + m) :: lst s (a + m + 1) (n - m - 1)
  | 0, a => .inl ⟨rfl, fun x h1 h2 => by omega⟩
  | n + 1, a => by
    cases hs : s a with
    | true => exact .inr ⟨0, by omega, hs, fun x h1 h2 => by omega, by simp [lst, hs]⟩
    | false =>
      rcases lst_cases s n (a + 1) with ⟨h1, h2⟩ | ⟨m, h1, h2, h3, h4⟩
      · refine .inl ⟨by simp [lst, hs, h1], fun x h3 h4 => ?_⟩
        by_cases e : x = a
        · rw [e]; exact hs
        · exact h2 x (by omega) (by omega)
      · refine .inr ⟨m + 1, by omega, by rw [show a + (m + 1) = a + 1 + m by omega]; exact h2, fun x h5 h6 => ?_, ?_⟩
        · by_cases e : x = a
          · rw [e]; exact hs
          · exact h3 x (by omega) (by omega)
        · simp only [lst, hs, h4]
          rw [show a + 1 + m = a + (m + 1) by omega, show n - m - 1 = n + 1 - (m + 1) - 1 by omega]
          simp
theorem lst_mem {s : Nat → Bool} {x : Nat} : ∀ (n a : Nat), x ∈ lst s a n ↔ a ≤ x ∧ x < a + n ∧ s x = true
  | 0, a => by simp [lst]; omega
  | n + 1, a => by
    have ih := lst_mem (s := s) (x := x) n (a + 1)
    simp only [lst]
    split
    · rename_i h
      rw [List.mem_cons, ih]
      constructor
      · rintro (rfl | h1)
        · exact ⟨Nat.le_refl _, by omega, h⟩
        · exact ⟨by omega, by omega, h1.2.2⟩
      · rintro ⟨h1, h2, h3⟩
        by_cases e : x = a
        · exact .inl e
        · exact .inr ⟨by omega, by omega, h3⟩
    · rename_i h
      rw [ih]
      constructor
      · rintro ⟨h1, h2, h3⟩; exact ⟨by omega, by omega, h3⟩
      · rintro ⟨h1, h2, h3⟩
        refine ⟨?_, by omega, h3⟩
        by_cases e : x = a
        · rw [e] at h3; exact absurd h3 h
        · omega
/-- The library's table of 64 places. -/
def Tab (W : World) : Prop := ∀ j, j < 64 → W.cell? ⟨0, j, none⟩ = some (.int .u8 ((Lib.deBruijn64tab.getD j 0 : Nat) : Int))
theorem Tab.kept {W W' : World} (h : Tab W) (hb : W'.heap[0]? = W.heap[0]?) : Tab W' := fun j hj => by
  rw [World.cell?_of_block (w := W) (a := ⟨0, j, none⟩) hb]; exact h j hj
theorem Tab.lt {W : World} (h : Tab W) : 0 < W.heap.size := cellLt (h 0 (by omega))
theorem tz_key (x a : Nat) (hx : x < 18446744073709551616) (hx0 : x ≠ 0) (hlow : x &&& (18446744073709551616 - x) = a) :
    IntKind.u64.wrap (bits BinOp.and IntKind.u64 (x : Int) (IntKind.u64.wrap (-(x : Int))) * 285870213051353865) / 288230376151711744 = ((a * 285870213051353865 % 18446744073709551616 / 288230376151711744 : Nat) : Int) := by
  have e1 : IntKind.u64.wrap (-(x : Int)) = ((18446744073709551616 - x : Nat) : Int) := by rw [IntKind.wrap_u64]; omega
  rw [e1, bits_and_u64_nat x _ hx (by omega), hlow, IntKind.wrap_u64]
  omega
set_option maxRecDepth 20000 in
set_option maxHeartbeats 1000000 in
theorem tz_core (x k idx : Nat) (w : World) (hx0 : ((x : Int) == 0) = false)
    (key : IntKind.u64.wrap (bits BinOp.and IntKind.u64 (x : Int) (IntKind.u64.wrap (-(x : Int))) * 285870213051353865) / 288230376151711744 = (idx : Int))
    (hi : idx < 64) (hk : k < 64) (hcell : w.cell? ⟨0, idx, none⟩ = some (.int .u8 (k : Int))) :
    Calls Tryz.prog 172 #[.int .u64 (x : Int)] w fun e w' => e = .returned (.int .i64 (k : Int)) ∧ w' = w := by
  go_enter Tryz.func172, Tryz.ntmps172
  go_wp2_with (simp only [key])
  go_ret
  exact ⟨rfl, rfl⟩
theorem tz_ok (x : Nat) (hx : x < 2 ^ 64) (h0 : x ≠ 0) (w : World) (hT : Tab w) :
    Calls Tryz.prog 172 #[.int .u64 (x : Int)] w fun e w' => e = .returned (.int .i64 ((Lib.ctz 64 x : Nat) : Int)) ∧ w' = w := by
  obtain ⟨hlow, hk⟩ := Lib.lowest_bit 64 x h0 hx
  obtain ⟨hi, htab⟩ := Lib.deBruijn64_at _ hk
  have hcell := hT _ hi
  rw [htab] at hcell
  exact tz_core x _ _ w (by simp; omega) (tz_key x _ hx h0 hlow) hi hk hcell
theorem heap_alloc_new2 (w : World) (o o' : Obj) : ((w.alloc o).alloc o').heap[w.heap.size + 1]? = some o' := by
  have := World.alloc_heap_new (w.alloc o) o'
  rwa [World.size_alloc] at this
theorem heap_alloc_old2 (w : World) (o o' : Obj) : ((w.alloc o).alloc o').heap[w.heap.size]? = some o := (Below.heap_alloc _ _ _ (by simp)).trans (World.alloc_heap_new w _)
set_option maxRecDepth 20000 in
theorem marked_ok (k : Nat) (x : Nat) (w : World) : Calls Tryz.prog 124 #[.int .i64 (k : Int), .int .u64 (x : Int)] w fun e w' => ∃ D K : Nat, e = .returned (.func (.func 171) #[] #[.pointer (some ⟨D, 0, none⟩), .pointer (some ⟨K, 0, none⟩)]) ∧ w.heap.size ≤ D ∧ w.heap.size ≤ K ∧ D ≠ K ∧ w'.heap.size = w.heap.size + 1 + 1 ∧ Below w.heap.size w w' ∧ w'.heap[D]? = some (.cells #[.int .u64 (x : Int)] 136) ∧ w'.heap[K]? = some (.cells #[.int .i64 (k : Int)] 3) := by
  go_enter Tryz.func124, Tryz.ntmps124
  go_wp2
  go_ret
  refine ⟨w.heap.size + 1, w.heap.size, rfl, by omega, by omega, by omega, by simp, ?_, ?_, ?_⟩
  · exact ((Below.refl _ _).alloc (Nat.le_refl _) _).alloc (by simp) _
  · exact heap_alloc_new2 w _ _
  · exact heap_alloc_old2 w _ _
theorem bk_cell {W : World} {K : Nat} {v : Value} {t : TypeId} (h : W.heap[K]? = some (.cells #[v] t)) : W.cell? ⟨K, 0, none⟩ = some v := by simp [World.cell?, h]
theorem bk_frozen {W : World} {K : Nat} {v : Value} {t : TypeId} (h : W.heap[K]? = some (.cells #[v] t)) : W.frozen? ⟨K, 0, none⟩ = false := by simp [World.frozen?, h]
theorem bk_set {W : World} {K : Nat} {v : Value} {t : TypeId} (v' : Value) (h : W.heap[K]? = some (.cells #[v] t)) : (W.setCell ⟨K, 0, none⟩ v').heap[K]? = some (.cells #[v'] t) := (Boxed.set (W := W) (B := K) (t := t) v' h)
/-- The number in a box. -/
def boxNat (V : World) (D : Nat) : Nat := match V.cell? ⟨D, 0, none⟩ with
  | .some (.int _ x) => x.toNat
  | _ => 0
theorem boxNat_of {V : World} {D : Nat} {x : Nat} {t : TypeId} (h : V.heap[D]? = some (.cells #[.int .u64 (x : Int)] t)) : boxNat V D = x := by
  unfold boxNat; rw [bk_cell h]; simp
/-- Where an iterator through a word stands. -/
structure MarkAt (s : Nat → Bool) (k D : Nat) (J : Nat → World → Prop) (W0 V : World) (j i : Nat) : Prop where
  le : j ≤ 64
  inv : J i V
  rest : (lst s (64 * k) 64).drop i = lst s (64 * k + j) (64 - j)
  box : V.heap[D]? = some (.cells #[.int .u64 ((word (fromD s (64 * k + j)) k : Nat) : Int)] 136)
  size : W0.heap.size ≤ V.heap.size
  il : i ≤ (lst s (64 * k) 64).length
theorem fromD_zero (s : Nat → Bool) (k : Nat) : word (fromD s (64 * k + 0)) k = word s k := word_ext fun i hi => by simp [fromD]
theorem MarkAt.len {s : Nat → Bool} {k D : Nat} {J : Nat → World → Prop} {W0 V : World} {j i : Nat} (h : MarkAt s k D J W0 V j i) : i ≤ (lst s (64 * k) 64).length := h.il
theorem MarkAt.none {s : Nat → Bool} {k D : Nat} {J : Nat → World → Prop} {W0 V : World} {j i : Nat} (h : MarkAt s k D J W0 V j i) (h0 : word (fromD s (64 * k + j)) k = 0) : i ≥ (lst s (64 * k) 64).length := by
  have hr := h.rest
  rcases lst_cases s (64 - j) (64 * k + j) with ⟨h1, _⟩ | ⟨m, h1, h2, _⟩
  · rw [h1] at hr
    have := congrArg List.length hr
    simp at this
    omega
  · exact absurd h0 (word_ne (i := j + m) (by omega) (by simp [fromD, ← Nat.add_assoc, h2]))
theorem MarkAt.some {s : Nat → Bool} {k D : Nat} {J : Nat → World → Prop} {W0 V : World} {j i : Nat} (h : MarkAt s k D J W0 V j i) (h0 : word (fromD s (64 * k + j)) k ≠ 0) :
    ∃ m : Nat, ∃ hi : i < (lst s (64 * k) 64).length, m < 64 ∧ (lst s (64 * k) 64)[i] = 64 * k + m ∧ Lib.ctz 64 (word (fromD s (64 * k + j)) k) = m ∧
      word (fromD s (64 * k + j)) k &&& (word (fromD s (64 * k + j)) k - 1) = word (fromD s (64 * k + (m + 1))) k ∧ (lst s (64 * k) 64).drop (i + 1) = lst s (64 * k + (m + 1)) (64 - (m + 1)) := by
  have hr := h.rest
  rcases lst_cases s (64 - j) (64 * k + j) with ⟨_, h2⟩ | ⟨m, h1, h2, h3, h4⟩
  · refine absurd (word_zero fun x hx => ?_) h0
    simp only [fromD]
    by_cases hj : j ≤ x
    · simp [h2 (64 * k + x) (by omega) (by omega)]
    · simp [show ¬ (64 * k + j ≤ 64 * k + x) by omega]
  · rw [h4] at hr
    have hi : i < (lst s (64 * k) 64).length := by
      have := congrArg List.length hr
      simp at this
      omega
    rw [List.drop_eq_getElem_cons hi] at hr
    obtain ⟨e1, e2⟩ := List.cons.inj hr
    have hst := from_step (s := s) (k := k) (j := j) (i := j + m) (by omega) (by omega) (by rw [← Nat.add_assoc]; exact h2) (fun x h5 h6 => h3 (64 * k + x) (by omega) (by omega))
    refine ⟨j + m, hi, by omega, by rw [e1]; omega, hst.1, hst.2, ?_⟩
    rw [e2]
    congr 1
    · omega
    · omega
set_option maxRecDepth 20000 in
set_option maxHeartbeats 2000000 in
/-- The iterator marked. -/
theorem marked_iter (s : Nat → Bool) (k D K : Nat) (W0 : World) (hk : k < 256) (hD : W0.heap[D]? = some (.cells #[.int .u64 ((word s k : Nat) : Int)] 136)) :
    Iter 171 #[.pointer (some ⟨D, 0, none⟩), .pointer (some ⟨K, 0, none⟩)] (lst s (64 * k) 64) (fun q => q = D) (fun V => V.heap[K]? = some (.cells #[.int .i64 (k : Int)] 3) ∧ Tab V) W0 := by
  intro n l base J Z W hs0 hbase hB hRd h0 hup hupZ hY
  have hat : MarkAt s k D J W W 0 0 := ⟨Nat.zero_le _, h0, rfl, by rw [(hB D rfl).2, hD, fromD_zero], Nat.le_refl _, Nat.zero_le _⟩
  have hDb := (hB D rfl).1
  refine callsIn_of_wp Tryz.func171 rfl trivial ?_ rfl
  simp only [Tryz.ntmps171, List.size_toArray, List.length_cons, List.length_nil, Nat.reduceAdd, Nat.reduceSub, Array.replicate_succ, Array.replicate_zero, List.push_toArray, List.append_toArray, List.nil_append, List.cons_append]
  have HRd := hide hRd
  have HUp := hide hup
  have HUpZ := hide hupZ
  have HY := hide hY
  have HAt := hide hat
  clear hB hRd h0 hup hupZ hY hat hD
  gi_wp2_with fail
  gi_loopw [4] (fun _ V => Hid (∃ j i, MarkAt s k D J W V j i)) (fun _ V => boxNat V D)
  case atStart => exact ⟨0, 0, unhide HAt⟩
  case round =>
    obtain ⟨j, i, hM⟩ := unhide hrel
    clear hrel HAt
    obtain ⟨hK, hT⟩ := unhide HRd i wr hM.inv
    have cD := bk_cell hM.box
    have fD := bk_frozen hM.box
    have cK := bk_cell hK
    obtain ⟨x, hx⟩ : ∃ x, x = word (fromD s (64 * k + j)) k := ⟨_, rfl⟩
    have HM := hide hM
    have HX := hide hx
    have hx64 : x < 2 ^ 64 := by rw [hx]; exact word_lt _ _
    rw [← hx] at cD
    by_cases hx0 : x = 0
    · subst hx0
      have hge := hM.none hx.symm
      clear hM hx hT hK
      gi_wp2_with fail
      refine bodyPost_end (v := .tuple #[]) (by simp [results, Tryz.results171]) rfl ⟨⟨_, rfl⟩, .inl ?_⟩
      have hM := unhide HM
      have hle : i ≤ (lst s (64 * k) 64).length := hM.len
      have : i = (lst s (64 * k) 64).length := by omega
      rw [← this]
      exact hM.inv
    · obtain ⟨m, hi, hm, e1, e2, e3, e4⟩ := hM.some (by rw [← hx]; exact hx0)
      rw [← hx] at e2 e3
      have HTz := hide (tz_ok x hx64 hx0 wr.drew (hT.kept rfl))
      rw [e2] at HTz
      obtain ⟨fn, tmps, assign, body, hy, hR⟩ := unhide HY i wr.drew hi (unhide HUp _ _ _ hM.inv (Its.drew _ _ _)) hM.size
      rw [e1] at hy
      have HR : Hid (RoundIn Fence.wide (n - 1) Tryz.prog l fn tmps assign body wr.drew fun e V' => ∃ b : Bool, e = .returned (.bool b) ∧ Hid (wr.heap.size ≤ V'.heap.size ∧ (∀ q, base ≤ q → q < wr.heap.size → V'.heap[q]? = wr.heap[q]?) ∧ (∀ q, q = D → V'.heap[q]? = wr.heap[q]?) ∧ (b = true ∧ J (i + 1) V' ∨ b = false ∧ Z V'))) := hR.mono fun e V' ⟨h1, h2, h3, h4⟩ => by
        rcases h4 with ⟨h4, h5⟩ | ⟨h4, h5⟩
        · exact ⟨true, h4, h1, h2, h3, .inl ⟨rfl, h5⟩⟩
        · exact ⟨false, h4, h1, h2, h3, .inr ⟨rfl, h5⟩⟩
      have hxb : ((x : Int) == 0) = false := by simp; omega
      obtain ⟨y, hy0⟩ : ∃ y : Nat, y = 64 * k + m := ⟨_, rfl⟩
      have hkm : IntKind.i64.wrap ((k : Int) * 64 + (m : Int)) = (y : Int) := by rw [hy0, IntKind.wrap_i64]; omega
      have hkm1 : IntKind.i64.wrap ((k : Int) * 64) = (k : Int) * 64 := by rw [IntKind.wrap_i64]; omega
      rw [← hy0] at hy
      clear hy0
      have HE := hide (And.intro e3 e4)
      have HMi := hide hi
      clear hR hM hx hT hK hi e1 e2 e3 e4 HRd HUpZ
      gi_wp2_with fail
      gi_region_with (first | (refine ⟨trivial, fun h => by simp [Fence.wide] at h, ?_⟩; refine (callsIn_wide.2 (unhide HTz)).mono ?_; rintro e w' ⟨rfl, rfl⟩) | (refine ⟨fun h => by simp [Fence.wide] at h, (unhide HR).mono ?_⟩; rintro e V' ⟨b, rfl, HP⟩))
      all_goals
        cases b with
        | true =>
          obtain ⟨hs, hn, hd, hz⟩ := unhide HP
          have hJ : J (i + 1) V' := by
            rcases hz with ⟨_, h⟩ | ⟨h, _⟩
            · exact h
            · cases h
          have hbox : V'.heap[D]? = some (.cells #[.int .u64 (x : Int)] 136) := by rw [hd D rfl, (unhide HM).box, ← unhide HX]
          have cD' := bk_cell hbox
          have fD' := bk_frozen hbox
          have hw1 : IntKind.u64.wrap ((x : Int) - 1) = ((x - 1 : Nat) : Int) := by rw [IntKind.wrap_u64]; omega
          have hw2 : bits BinOp.and IntKind.u64 (x : Int) ((x - 1 : Nat) : Int) = ((word (fromD s (64 * k + (m + 1))) k : Nat) : Int) := by rw [bits_and_u64_nat x _ (by omega) (by omega), (unhide HE).1]
          have HB := hide hbox
          have HJ := hide hJ
          have HS := hide hs
          clear hs hn hd hz hJ hbox cD cK fD hy HP
          gi_wp2_with fail
          refine ⟨⟨m + 1, i + 1, ⟨by omega, unhide HUp _ _ _ (unhide HJ) (Its.set V' _ _ (.inr rfl)), (unhide HE).2, bk_set _ (unhide HB), ?_, unhide HMi⟩⟩, ?_⟩
          · have h1 := (unhide HM).size
            have h2 := unhide HS
            rw [World.size_setCell]
            omega
          · rw [boxNat_of (bk_set _ (unhide HB)), boxNat_of (unhide HM).box, ← unhide HX, ← (unhide HE).1]
            have := (Nat.and_le_right : x &&& (x - 1) ≤ x - 1)
            omega
        | false =>
          obtain ⟨hs, hn, hd, hz⟩ := unhide HP
          have hZ : Z V' := by
            rcases hz with ⟨h, _⟩ | ⟨_, h⟩
            · cases h
            · exact h
          clear hs hn hd hz cD cK fD hy HP
          gi_wp2_with fail
          exact bodyPost_ret (v := .tuple #[]) (by simp [results, Tryz.results171]) rfl ⟨⟨_, rfl⟩, .inr hZ⟩
end Go.Proofs.YtebcmicmklpflaaGreatDoor
/- Pages: all that is marked, one behind the other: the iterator all; the least one; how many. -/
namespace Go.Proofs.YtebcmicmklpflaaGreatDoor
open Go.RowKit Go.Shelf Go.Great
attribute [local go_sem] Oper.semAt_some
set_option linter.unusedSimpArgs false
/-- The marks of loops that a function has been through: their blocks fall. -/
def Marks (V : World) (base : Nat) : Nat → List Deferred → Prop
  | _, [] => True
  | hi, d :: ds => ∃ r, d = { target := .collected r, args := #[] } ∧ base ≤ r ∧ r < hi ∧ V.heap[r]? = some (.deferred (some [])) ∧ Marks V base r ds
theorem Marks.keep {V V' : World} {base : Nat} : ∀ {ds : List Deferred} {hi : Nat}, Marks V base hi ds → (∀ q, base ≤ q → q < hi → V'.heap[q]? = V.heap[q]?) → Marks V' base hi ds
  | [], _, _, _ => trivial
  | _ :: _, _, ⟨r, e, h1, h2, h3, h4⟩, hk => ⟨r, e, h1, h2, (hk r h1 h2).trans h3, h4.keep (fun q h5 h6 => hk q h5 (by omega))⟩
theorem Marks.up {V : World} {base : Nat} {ds : List Deferred} {hi hi' : Nat} (h : Marks V base hi ds) (hle : hi ≤ hi') : Marks V base hi' ds := by
  cases ds with
  | nil => trivial
  | cons d ds =>
    obtain ⟨r, e, h1, h2, h3, h4⟩ := h
    exact ⟨r, e, h1, by omega, h3, h4⟩
theorem Marks.leave {F : Fence} {n : Nat} {P : Program} {fn : Func} {tmps : Array Value} {R : Ending → World → Prop} {base : Nat} : ∀ (ds : List Deferred) (hi : Nat) (V : World), Marks V base hi ds →
    (∀ V', Its base (fun _ => False) V V' → ∃ v, (results fn tmps).run P V' = .ok v V' ∧ R (.returned v) V') → LeavesInM F n P fn tmps R ds .returning V
  | [], _, V, _, h => h V (Its.refl _ _ _)
  | d :: ds, hi, V, ⟨r, e, h1, h2, h3, h4⟩, h => by
    refine ⟨by simp, .inl ⟨r, V.putObj r (.deferred none), by rw [e], run_takeDeferred h3, ?_⟩⟩
    refine Marks.leave ds r _ (h4.keep (fun q h5 h6 => World.putObj_heap_other (by omega))) (fun V' hV => h V' ((Its.put V _ (.inl h1)).trans hV))
/-- The words of marks. -/
def WordsAt (g o : Nat) (s : Nat → Bool) (V : World) : Prop := ∀ k, k < 256 → V.cell? ⟨g, o + k, none⟩ = some (.int .u64 ((word s k : Nat) : Int))
theorem enters171 : Enters 171 := enters_of Tryz.func171 (by kernel_rfl) (by kernel_rfl)
theorem enters123 : Enters 123 := enters_of Tryz.func123 (by kernel_rfl) (by kernel_rfl)
theorem lst_len_step (s : Nat → Bool) (k : Nat) : (lst s 0 (64 * (k + 1))).length = (lst s 0 (64 * k)).length + (lst s (64 * k) 64).length := by
  rw [show 64 * (k + 1) = 64 * k + 64 by omega, lst_append, List.length_append, Nat.zero_add]
theorem lst_at (s : Nat → Bool) (k i : Nat) (hk : k < 256) (hi : i < (lst s (64 * k) 64).length) : ∃ h : (lst s 0 (64 * k)).length + i < (lst s 0 16384).length, (lst s 0 16384)[(lst s 0 (64 * k)).length + i] = (lst s (64 * k) 64)[i] := by
  have e : lst s 0 16384 = lst s 0 (64 * k) ++ (lst s (64 * k) 64 ++ lst s (64 * k + 64) (16384 - 64 * k - 64)) := by
    rw [show 16384 = 64 * k + (64 + (16384 - 64 * k - 64)) by omega, lst_append, Nat.zero_add, lst_append]
    congr 3
    omega
  have hlt : (lst s 0 (64 * k)).length + i < (lst s 0 16384).length := by rw [e]; simp; omega
  refine ⟨hlt, ?_⟩
  simp only [e]
  rw [List.getElem_append_right (by omega)]
  rw [List.getElem_append_left (by omega)]
  congr 1
  omega
/-- Where the iterator through all words stands. -/
structure AllAt (s : Nat → Bool) (l Y base : Nat) (J : Nat → World → Prop) (V : World) (k : Nat) (ds : List Deferred) : Prop where
  le : k ≤ 256
  inv : J (lst s 0 (64 * k)).length V
  box : V.heap[Y]? = some (.cells #[.func (.yield l) #[] #[]] 158)
  new : base ≤ Y
  marks : Marks V base V.heap.size ds
  size : base ≤ V.heap.size
set_option maxRecDepth 20000 in
set_option maxHeartbeats 4000000 in
/-- The iterator all. -/
theorem all_iter (s : Nat → Bool) (g o B : Nat) (W0 : World) : Iter 123 #[.pointer (some ⟨B, 0, none⟩)] (lst s 0 16384) (fun _ => False) (fun V => V.cell? ⟨B, 0, none⟩ = some (.pointer (some ⟨g, o, none⟩)) ∧ Tab V ∧ WordsAt g o s V) W0 := by
  intro n l base J Z W hs0 hbase hB hRd h0 hup hupZ hY
  refine callsIn_of_wp_marks Tryz.func123 rfl trivial ?_ rfl
  simp only [Tryz.ntmps123, List.size_toArray, List.length_cons, List.length_nil, Nat.reduceAdd, Nat.reduceSub, Array.replicate_succ, Array.replicate_zero, List.push_toArray, List.append_toArray, List.nil_append, List.cons_append]
  have hat : AllAt s l W.heap.size base J (W.alloc (.cells #[.func (.yield l) #[] #[]] 158)) 0 [] := by
    refine ⟨Nat.zero_le _, hup _ _ _ h0 (Its.of_below ((Below.refl _ _).alloc (Nat.le_refl _) _)), World.alloc_heap_new W _, by omega, trivial, by simp; omega⟩
  have HRd := hide hRd
  have HUp := hide hup
  have HUpZ := hide hupZ
  have HY := hide hY
  have HAt := hide hat
  have HBase := hide hbase
  clear hB hRd h0 hup hupZ hY hat hbase hs0
  gi_wp2_with fail
  refine wpIn_loop (fun a V => ∃ (k : Nat) (ds : List Deferred) (u3 u4 u6 u7 u8 u9 u10 u11 u12 u13 u14 u15 u16 u17 u18 u19 u20 : Value), a = { tmps := #[.func (.yield l) #[] #[], .pointer (some ⟨B, 0, none⟩), .pointer (some ⟨W.heap.size, 0, none⟩), u3, u4, .int .i64 (k : Int), u6, u7, u8, u9, u10, u11, u12, u13, u14, u15, u16, u17, u18, u19, u20], defers := ds } ∧ Hid (AllAt s l W.heap.size base J V k ds)) (fun a _ => 256 - (intOf (a.tmps.getD 5 undef)).toNat) ?_ ?_
  · exact ⟨0, [], _, _, _, _, _, _, _, _, _, _, _, _, _, _, _, _, _, rfl, HAt⟩
  · rintro a V ⟨k, ds, u3, u4, u6, u7, u8, u9, u10, u11, u12, u13, u14, u15, u16, u17, u18, u19, u20, rfl, hA⟩
    clear HAt
    have hAt := unhide hA
    obtain ⟨hBc, hT, hW⟩ := unhide HRd _ _ hAt.inv
    by_cases hk : k < 256
    · have hk' : (k : Int) < 256 := by omega
      have hwk := hW k hk
      have HL := hide (uload ⟨g, o + k, none⟩ _ V hwk)
      have HMk := hide (marked_ok k (word s k) V)
      have HT := hide hT
      clear hAt hT hW
      gi_wp2_with fail
      refine ⟨trivial, fun h => by simp [Fence.wide] at h, ?_⟩
      refine (callsIn_wide.2 (unhide HL)).mono ?_
      rintro e w' ⟨rfl, hw'⟩
      have hw2 := hw'.symm
      subst hw2
      clear hw'
      gi_wp2_with fail
      refine ⟨trivial, fun h => by simp [Fence.wide] at h, ?_⟩
      refine (callsIn_wide.2 (unhide HMk)).mono ?_
      rintro e W1 ⟨D, K, rfl, hD, hK, hDK, hs1, hb1, hbD, hbK⟩
      have hAt := unhide hA
      have HAl := hide (And.intro hAt hb1)
      have HNum : Hid (V.heap.size ≤ D ∧ V.heap.size ≤ K ∧ D ≠ K ∧ W1.heap.size = V.heap.size + 1 + 1 ∧ W1.heap[D]? = some (.cells #[.int .u64 ((word s k : Nat) : Int)] 136) ∧ W1.heap[K]? = some (.cells #[.int .i64 (k : Int)] 3)) := ⟨hD, hK, hDK, hs1, hbD, hbK⟩
      clear hD hK hDK hs1 hb1 hbD hbK hAt HL HMk hwk hBc
      gi_wp2_with fail
      have HGo := hide (marked_iter s k D K W1 hk (unhide HNum).2.2.2.2.1)
      refine range_iter (N := n) (unhide HGo) enters171 Leave.ret (fun x => { tmps := #[.func (.yield l) #[] #[], .pointer (some ⟨B, 0, none⟩), .pointer (some ⟨W.heap.size, 0, none⟩), .int .i64 (k : Int), .int .i64 (x : Int), .int .i64 (k : Int), .bool true, .int .i64 (k : Int), .int .i64 (k : Int), .pointer (some ⟨g, o, none⟩), .int .i64 (k : Int), .pointer (some ⟨g, o, none⟩), .pointer (some ⟨g, o + k, none⟩), .int .u64 ((word s k : Nat) : Int), .func (.func 171) #[] #[.pointer (some ⟨D, 0, none⟩), .pointer (some ⟨K, 0, none⟩)], .int .i64 (x : Int), u16, u17, u18, u19, u20], defers := [] })
        (fun i X => J ((lst s 0 (64 * k)).length + i) X ∧ X.heap[W.heap.size]? = some (.cells #[.func (.yield l) #[] #[]] 158) ∧ Marks X base V.heap.size ds ∧ X.heap[K]? = some (.cells #[.int .i64 (k : Int)] 3) ∧ W1.heap.size ≤ X.heap.size)
        (fun X => Z X ∧ Marks X base V.heap.size ds ∧ W1.heap.size ≤ X.heap.size) rfl ?_ ?_ ?_ ?_ ?_ ?_ ?_ ?_ ?_
      · rintro q rfl
        exact (Array.getElem?_eq_some_iff.1 (unhide HNum).2.2.2.2.1).1
      · rintro i X ⟨h1, h2, h3, h4, h5⟩
        exact ⟨h4, (unhide HRd _ _ h1).2.1⟩
      · obtain ⟨hAt, hb1⟩ := unhide HAl
        obtain ⟨n1, n2, n3, n4, n5, n6⟩ := unhide HNum
        have hYlt := (Array.getElem?_eq_some_iff.1 hAt.box).1
        exact ⟨unhide HUp _ _ _ hAt.inv (Its.of_below hb1), by rw [hb1.block _ hYlt]; exact hAt.box, hAt.marks.keep (fun q _ h => hb1.block q h), n6, Nat.le_refl _⟩
      · rintro i X X' ⟨h1, h2, h3, h4, h5⟩ hX
        obtain ⟨hAt, hb1⟩ := unhide HAl
        obtain ⟨n1, n2, n3, n4, n5, n6⟩ := unhide HNum
        have hYlt := (Array.getElem?_eq_some_iff.1 hAt.box).1
        have hsz := hAt.size
        refine ⟨unhide HUp _ _ _ h1 (hX.mono (by omega) (fun q hq (e : q = D) => by omega)), ?_, h3.keep (fun q h6 h7 => hX.block q (by omega) (by omega) (fun (e : q = D) => by omega)), ?_, Nat.le_trans h5 hX.size⟩
        · rw [hX.block _ (by omega) (by omega) (fun (e : W.heap.size = D) => by omega)]; exact h2
        · rw [hX.block _ (by have := (Array.getElem?_eq_some_iff.1 n6).1; omega) (Array.getElem?_eq_some_iff.1 h4).1 (fun (e : K = D) => n3 e.symm)]; exact h4
      · rintro X X' ⟨h1, h2, h5⟩ hX
        obtain ⟨hAt, hb1⟩ := unhide HAl
        obtain ⟨n1, n2, n3, n4, n5, n6⟩ := unhide HNum
        have hsz := hAt.size
        exact ⟨unhide HUpZ _ _ h1 (hX.mono (by omega) (fun q hq (e : q = D) => by omega)), h2.keep (fun q h6 h7 => hX.block q (by omega) (by omega) (fun (e : q = D) => by omega)), Nat.le_trans h5 hX.size⟩
      · intro l' x X K' hK'
        gi_wp2_with fail
        exact hK'
      · rintro l' i X R hi ⟨h1, h2, h3, h4, h5⟩ hlt hR
        have HX := hide (And.intro h1 (And.intro h3 (And.intro h4 h5)))
        have HRR := hide hR
        obtain ⟨hi2, hxe⟩ := lst_at s k i hk hi
        obtain ⟨fn, tmps, assign, body, hy, hRo⟩ := unhide HY _ X hi2 h1 (by have := (unhide HNum).2.2.2.1; have := (unhide HAl).1.size; have := unhide HBase; omega)
        rw [hxe] at hy
        have HRo : Hid (RoundIn Fence.wide (n - 1 - 1 - 1) Tryz.prog l fn tmps assign body X fun e V' => ∃ b : Bool, e = .returned (.bool b) ∧ Hid (X.heap.size ≤ V'.heap.size ∧ (∀ q, base ≤ q → q < X.heap.size → V'.heap[q]? = X.heap[q]?) ∧ (b = true ∧ J ((lst s 0 (64 * k)).length + i + 1) V' ∨ b = false ∧ Z V'))) := roundIn_wide (hRo.mono fun e V' ⟨h1, h2, h3, h4⟩ => by
          rcases h4 with ⟨h4, h5⟩ | ⟨h4, h5⟩
          · exact ⟨true, h4, h1, h2, .inl ⟨rfl, h5⟩⟩
          · exact ⟨false, h4, h1, h2, .inr ⟨rfl, h5⟩⟩)
        have cY := bk_cell h2
        have HC2 := hide h2
        clear hRo hR h1 h3 h4 h5 hxe h2
        gi_wp2_with fail
        refine ⟨fun h => by simp [Fence.wide] at h, (unhide HRo).mono ?_⟩
        rintro e V' ⟨b, rfl, HP⟩
        cases b with
        | true =>
          clear hy cY HRo
          gi_wp2_with fail
          obtain ⟨p1, p2, p3⟩ := unhide HP
          obtain ⟨x1, x2, x3, x4⟩ := unhide HX
          obtain ⟨n1, n2, n3, n4, n5, n6⟩ := unhide HNum
          obtain ⟨hAt, hb1⟩ := unhide HAl
          have hsz := hAt.size
          have hYlt := (Array.getElem?_eq_some_iff.1 hAt.box).1
          have hJ' : J ((lst s 0 (64 * k)).length + i + 1) V' := by
            rcases p3 with ⟨_, h⟩ | ⟨h, _⟩
            · exact h
            · cases h
          refine unhide HRR _ _ _ p1 (fun q h6 h7 => p2 q (by omega) h7) (fun q (e : q = D) => p2 q (by omega) (by have := (Array.getElem?_eq_some_iff.1 n5).1; omega)) (.inl ⟨rfl, hJ', ?_, x2.keep (fun q h6 h7 => p2 q h6 (by omega)), ?_, by omega⟩)
          · rw [p2 _ hAt.new (by omega)]; exact unhide HC2
          · rw [p2 _ (by omega) (Array.getElem?_eq_some_iff.1 x3).1]; exact x3
        | false =>
          clear hy cY HRo
          gi_wp2_with fail
          obtain ⟨p1, p2, p3⟩ := unhide HP
          obtain ⟨x1, x2, x3, x4⟩ := unhide HX
          obtain ⟨n1, n2, n3, n4, n5, n6⟩ := unhide HNum
          obtain ⟨hAt, hb1⟩ := unhide HAl
          have hsz := hAt.size
          have hZ' : Z V' := by
            rcases p3 with ⟨h, _⟩ | ⟨_, h⟩
            · cases h
            · exact h
          exact unhide HRR _ _ _ p1 (fun q h6 h7 => p2 q (by omega) h7) (fun q (e : q = D) => p2 q (by omega) (by have := (Array.getElem?_eq_some_iff.1 n5).1; omega)) (.inr ⟨rfl, hZ', x2.keep (fun q h6 h7 => p2 q h6 (by omega)), by omega⟩)
      · rintro X ⟨h1, h2, h3, h4, h5⟩ hd hlt
        have hnum := unhide HNum
        have hAt := unhide HAl
        have hA' : AllAt s l W.heap.size base J X (k + 1) ({ target := .collected W1.heap.size, args := #[] } :: ds) :=
          ⟨hk, by rw [lst_len_step]; exact h1, h2, hAt.1.new, ⟨W1.heap.size, rfl, by have := hAt.1.size; omega, by omega, hd, h3.up (by omega)⟩, by have := hAt.1.size; omega⟩
        have HA' := hide hA'
        clear h1 h2 h3 h4 h5 hd hnum hAt hA'
        gi_wp2_with fail
        refine ⟨⟨k + 1, _, _, _, _, _, _, _, _, _, _, _, _, _, _, _, _, _, _, rfl, HA'⟩, ?_⟩
        simp [intOf]
        omega
      · rintro X ⟨h1, h2, h3⟩ hd hlt
        have hnum := unhide HNum
        have hAt := unhide HAl
        refine Marks.leave (base := base) (hi := W1.heap.size + 1) _ _ ⟨W1.heap.size, rfl, by have := hAt.1.size; omega, by omega, hd, h2.up (by omega)⟩ (fun V' hV => ⟨.tuple #[], by simp [results, Tryz.results123], ⟨_, rfl⟩, .inr (unhide HUpZ _ _ h1 hV)⟩)
    · have hk' : ¬ ((k : Int) < 256) := by omega
      have HF := hide hAt
      clear hAt hBc hT hW
      gi_wp2_with fail
      refine Marks.leave (base := base) _ _ _ (unhide HF).marks (fun V' hV => ⟨.tuple #[], by simp [results, Tryz.results123], ⟨_, rfl⟩, .inl ?_⟩)
      obtain rfl : k = 256 := by have := (unhide HF).le; omega
      exact unhide HUp _ _ _ (unhide HF).inv hV
end Go.Proofs.YtebcmicmklpflaaGreatDoor
/- Pages: the least one that is marked. -/
namespace Go.Proofs.YtebcmicmklpflaaGreatDoor
open Go.RowKit Go.Shelf Go.Great
attribute [local go_sem] Oper.semAt_some
set_option linter.unusedSimpArgs false
set_option maxRecDepth 20000 in
theorem all_ok (g o : Nat) (w : World) : Calls Tryz.prog 92 #[.pointer (some ⟨g, o, none⟩)] w fun e w' => e = .returned (.func (.func 123) #[] #[.pointer (some ⟨w.heap.size, 0, none⟩)]) ∧ w' = w.alloc (.cells #[.pointer (some ⟨g, o, none⟩)] 154) := by
  go_enter Tryz.func92, Tryz.ntmps92
  go_wp2
  go_ret
  exact ⟨rfl, rfl⟩
theorem WordsAt.kept {g o : Nat} {s : Nat → Bool} {V V' : World} (h : WordsAt g o s V) (hb : V'.heap[g]? = V.heap[g]?) : WordsAt g o s V' := fun k hk => by
  rw [World.cell?_of_block (w := V) (a := ⟨g, o + k, none⟩) hb]; exact h k hk
theorem WordsAt.lt {g o : Nat} {s : Nat → Bool} {V : World} (h : WordsAt g o s V) : g < V.heap.size := cellLt (h 0 (by omega))
theorem Its.below {base : Nat} {W W' : World} (h : Its base (fun _ => False) W W') (hb : base ≤ W.heap.size) : Below base W W' := ⟨h.os, h.tape, h.output, h.size, fun q hq => h.block q hq (by omega) (fun h => h)⟩
theorem Below.of_its {n base : Nat} {w W W' : World} (h : Below n w W) (k : Its base (fun _ => False) W W') (hb : n ≤ base) (hn : n ≤ w.heap.size) : Below n w W' :=
  ⟨k.os.trans h.os, k.tape.trans h.tape, k.output.trans h.output, Nat.le_trans h.size k.size, fun q hq => (k.block q (by omega) (by have := h.size; omega) (fun h => h)).trans (h.block q hq)⟩
/-- What first answers. -/
def firstOf (s : Nat → Bool) : Nat × Bool := ((lst s 0 16384).headD 0, !(lst s 0 16384).isEmpty)
theorem first_cons : ∀ (L : List Nat) (h : 0 < L.length), (L.headD 0, !L.isEmpty) = (L[0], true)
  | [], h => absurd h (by simp)
  | _ :: _, _ => rfl
set_option maxRecDepth 20000 in
set_option maxHeartbeats 2000000 in
theorem first_ok (s : Nat → Bool) (g o : Nat) (w : World) (hT : Tab w) (hW : WordsAt g o s w) :
    Calls Tryz.prog 90 #[.pointer (some ⟨g, o, none⟩)] w fun e w' => e = .returned (.tuple #[.int .i64 ((firstOf s).1 : Int), .bool (firstOf s).2]) ∧ Below w.heap.size w w' := by
  refine (callsIn_wide (n := 3)).1 ?_
  refine callsIn_of_wp_marks Tryz.func90 rfl trivial ?_ rfl
  simp only [Tryz.ntmps90, List.size_toArray, List.length_cons, List.length_nil, Nat.reduceAdd, Nat.reduceSub, Array.replicate_succ, Array.replicate_zero, List.push_toArray, List.append_toArray, List.nil_append, List.cons_append]
  have HAll := hide (all_ok g o)
  have HT := hide hT
  have HW := hide hW
  clear hT hW
  gi_wp2_with fail
  refine ⟨trivial, ?_⟩
  refine (callsIn_wide.2 (unhide HAll _)).mono ?_
  rintro e w' ⟨rfl, hw'⟩
  obtain ⟨W0, hW0⟩ : ∃ W0, W0 = ((w.alloc (.cells #[.int .i64 0] 3)).alloc (.cells #[.bool false] 4)).alloc (.cells #[.pointer (some ⟨g, o, none⟩)] 154) := ⟨_, rfl⟩
  have hB0 : W0.heap[w.heap.size + 1 + 1]? = some (.cells #[.pointer (some ⟨g, o, none⟩)] 154) := by
    rw [hW0]
    have := World.alloc_heap_new ((w.alloc (.cells #[.int .i64 0] 3)).alloc (.cells #[.bool false] 4)) (.cells #[.pointer (some ⟨g, o, none⟩)] 154)
    simpa using this
  have hR0 : W0.heap[w.heap.size]? = some (.cells #[.int .i64 0] 3) := by rw [hW0]; exact (Below.heap_alloc _ _ _ (by simp; omega)).trans (heap_alloc_old2 w _ _)
  have hR1 : W0.heap[w.heap.size + 1]? = some (.cells #[.bool false] 4) := by rw [hW0]; exact (Below.heap_alloc _ _ _ (by simp)).trans (heap_alloc_new2 w _ _)
  have hbl : Below w.heap.size w W0 := by rw [hW0]; exact (((Below.refl _ _).alloc (Nat.le_refl _) _).alloc (by simp) _).alloc (by simp; omega) _
  have hsz : W0.heap.size = w.heap.size + 1 + 1 + 1 := by rw [hW0]; simp
  rw [← hW0] at hw'
  subst hw'
  simp only [World.size_alloc]
  have HF := hide (And.intro hB0 (And.intro hR0 (And.intro hR1 (And.intro hbl hsz))))
  clear hW0 hB0 hR0 hR1 hbl hsz HAll
  gi_wp2_with fail
  have HGo := hide (all_iter s g o (w.heap.size + 1 + 1) w')
  refine range_iter (N := 3) (unhide HGo) enters123 Leave.ret (fun x => { tmps := #[.pointer (some ⟨g, o, none⟩), undef, .pointer (some ⟨w.heap.size, 0, none⟩), .pointer (some ⟨w.heap.size + 1, 0, none⟩), .int .i64 (x : Int), .pointer (some ⟨g, o, none⟩), .func (.func 123) #[] #[.pointer (some ⟨w.heap.size + 1 + 1, 0, none⟩)], .int .i64 (x : Int), undef], defers := [] })
    (fun i X => i = 0 ∧ Its w'.heap.size (fun _ => False) w' X)
    (fun X => (firstOf s).2 = true ∧ X.heap[w.heap.size]? = some (.cells #[.int .i64 ((firstOf s).1 : Int)] 3) ∧ X.heap[w.heap.size + 1]? = some (.cells #[.bool true] 4) ∧ Below w.heap.size w X) rfl ?_ ?_ ?_ ?_ ?_ ?_ ?_ ?_ ?_
  · intro q h; exact h.elim
  · rintro i X ⟨_, hX⟩
    obtain ⟨hB0, hR0, hR1, hbl, hsz⟩ := unhide HF
    have h0 := (unhide HT).lt
    have h1 := (unhide HW).lt
    refine ⟨bk_cell (t := 154) (by rw [hX.block _ (by omega) (by omega) (fun h => h)]; exact hB0), (unhide HT).kept ?_, (unhide HW).kept ?_⟩
    · rw [hX.block _ (by omega) (by omega) (fun h => h), hbl.block _ h0]
    · rw [hX.block _ (by omega) (by omega) (fun h => h), hbl.block _ h1]
  · exact ⟨rfl, Its.refl _ _ _⟩
  · rintro i X X' ⟨h1, h2⟩ h3; exact ⟨h1, h2.trans h3⟩
  · rintro X X' ⟨h1, h2, h3, h4⟩ hX
    obtain ⟨hB0, hR0, hR1, hbl, hsz⟩ := unhide HF
    exact ⟨h1, by rw [hX.block _ (by omega) (Array.getElem?_eq_some_iff.1 h2).1 (fun h => h)]; exact h2, by rw [hX.block _ (by omega) (Array.getElem?_eq_some_iff.1 h3).1 (fun h => h)]; exact h3, Below.of_its h4 hX (by omega) (Nat.le_refl _)⟩
  · intro l' x X K' hK'
    gi_wp2_with fail
    exact hK'
  · rintro l' i X R hi ⟨rfl, hX⟩ hlt hR
    have HX := hide hX
    have HRR := hide hR
    obtain ⟨hB0, hR0, hR1, hbl, hsz⟩ := unhide HF
    have k0 : X.heap[w.heap.size]? = some (.cells #[.int .i64 0] 3) := by rw [hX.block _ (by omega) (by omega) (fun h => h)]; exact hR0
    have k1 : X.heap[w.heap.size + 1]? = some (.cells #[.bool false] 4) := by rw [hX.block _ (by omega) (by omega) (fun h => h)]; exact hR1
    have c0 := bk_cell k0
    have f0 := bk_frozen k0
    have c1 := bk_cell k1
    have f1 := bk_frozen k1
    have HK := hide (And.intro k0 k1)
    have hfo : firstOf s = ((lst s 0 16384)[0], true) := by
      exact first_cons _ hi
    obtain ⟨y, hy⟩ : ∃ y, y = (lst s 0 16384)[0] := ⟨_, rfl⟩
    rw [← hy] at hfo ⊢
    have HFo := hide hfo
    clear hR hX k0 k1 hB0 hR0 hR1 hbl hsz hfo hy
    gi_wp2_with fail
    obtain ⟨k0, k1⟩ := unhide HK
    obtain ⟨hB0, hR0, hR1, hbl, hsz⟩ := unhide HF
    have hX := unhide HX
    have m0 := bk_set (.int .i64 (y : Int)) k0
    have m1 : ((X.setCell ⟨w.heap.size, 0, none⟩ (.int .i64 (y : Int))).setCell ⟨w.heap.size + 1, 0, none⟩ (.bool true)).heap[w.heap.size + 1]? = some (.cells #[.bool true] 4) := bk_set _ (by rw [Below.heap_setCell _ _ _ _ (by simp)]; exact k1)
    refine unhide HRR _ _ _ (by simp) (fun q h6 h7 => ?_) (fun q h => h.elim) (.inr ⟨rfl, by rw [unhide HFo], ?_, m1, ?_⟩)
    · rw [Below.heap_setCell _ _ _ _ (by show q ≠ w.heap.size + 1; omega), Below.heap_setCell _ _ _ _ (by show q ≠ w.heap.size; omega)]
    · rw [Below.heap_setCell _ _ _ _ (by show w.heap.size ≠ w.heap.size + 1; omega), unhide HFo]; exact m0
    · exact (((Below.of_its hbl hX (by omega) (Nat.le_refl _)).setCell (by show w.heap.size ≤ w.heap.size; omega) _).setCell (by show w.heap.size ≤ w.heap.size + 1; omega) _)
  · rintro X ⟨h1, hX⟩ hd hlt
    obtain ⟨hB0, hR0, hR1, hbl, hsz⟩ := unhide HF
    have k0 : X.heap[w.heap.size]? = some (.cells #[.int .i64 0] 3) := by rw [hX.block _ (by omega) (by omega) (fun h => h)]; exact hR0
    have k1 : X.heap[w.heap.size + 1]? = some (.cells #[.bool false] 4) := by rw [hX.block _ (by omega) (by omega) (fun h => h)]; exact hR1
    have c0 := bk_cell k0
    have f0 := bk_frozen k0
    have c1 := bk_cell k1
    have f1 := bk_frozen k1
    have hfo : firstOf s = (0, false) := by
      unfold firstOf
      rw [List.eq_nil_of_length_eq_zero h1]
      rfl
    have HE := hide (And.intro (And.intro k0 k1) (And.intro hX (And.intro hd hlt)))
    clear hX hd hlt k0 k1 hB0 hR0 hR1 hbl hsz h1
    gi_wp2_with fail
    obtain ⟨⟨k0, k1⟩, hX, hd, hlt⟩ := unhide HE
    obtain ⟨hB0, hR0, hR1, hbl, hsz⟩ := unhide HF
    have m0 := bk_set (.int .i64 0) k0
    have m1 : ((X.setCell ⟨w.heap.size, 0, none⟩ (.int .i64 0)).setCell ⟨w.heap.size + 1, 0, none⟩ (.bool false)).heap[w.heap.size + 1]? = some (.cells #[.bool false] 4) := bk_set _ (by rw [Below.heap_setCell _ _ _ _ (by simp)]; exact k1)
    have m2 : ((X.setCell ⟨w.heap.size, 0, none⟩ (.int .i64 0)).setCell ⟨w.heap.size + 1, 0, none⟩ (.bool false)).heap[w.heap.size]? = some (.cells #[.int .i64 0] 3) := by
      rw [Below.heap_setCell _ _ _ _ (by show w.heap.size ≠ w.heap.size + 1; omega)]; exact m0
    have hbX : Below w.heap.size w ((X.setCell ⟨w.heap.size, 0, none⟩ (.int .i64 0)).setCell ⟨w.heap.size + 1, 0, none⟩ (.bool false)) := ((Below.of_its hbl hX (by omega) (Nat.le_refl _)).setCell (by show w.heap.size ≤ w.heap.size; omega) _).setCell (by show w.heap.size ≤ w.heap.size + 1; omega) _
    refine Marks.leave (base := w'.heap.size) (hi := w'.heap.size + 1) _ _ ⟨w'.heap.size, rfl, Nat.le_refl _, by omega, ?_, trivial⟩ (fun V' hV => ?_)
    · rw [Below.heap_setCell _ _ _ _ (by show w'.heap.size ≠ w.heap.size + 1; omega), Below.heap_setCell _ _ _ _ (by show w'.heap.size ≠ w.heap.size; omega)]; exact hd
    · have c0 : V'.cell? ⟨w.heap.size, 0, none⟩ = some (.int .i64 0) := bk_cell (t := 3) (by rw [hV.block _ (by omega) (by simp; omega) (fun h => h)]; exact m2)
      have c1 : V'.cell? ⟨w.heap.size + 1, 0, none⟩ = some (.bool false) := bk_cell (t := 4) (by rw [hV.block _ (by omega) (by simp; omega) (fun h => h)]; exact m1)
      refine ⟨.tuple #[.int .i64 0, .bool false], by simp [results, Tryz.results90, go_sem, c0, c1], by rw [hfo]; rfl, Below.of_its hbX hV (by omega) (Nat.le_refl _)⟩
  · rintro X ⟨h1, h2, h3, h4⟩ hd hlt
    obtain ⟨hB0, hR0, hR1, hbl, hsz⟩ := unhide HF
    refine Marks.leave (base := w'.heap.size) (hi := w'.heap.size + 1) _ _ ⟨w'.heap.size, rfl, Nat.le_refl _, by omega, hd, trivial⟩ (fun V' hV => ?_)
    have c0 : V'.cell? ⟨w.heap.size, 0, none⟩ = some (.int .i64 ((firstOf s).1 : Int)) := bk_cell (t := 3) (by rw [hV.block _ (by omega) (by omega) (fun h => h)]; exact h2)
    have c1 : V'.cell? ⟨w.heap.size + 1, 0, none⟩ = some (.bool true) := bk_cell (t := 4) (by rw [hV.block _ (by omega) (by omega) (fun h => h)]; exact h3)
    refine ⟨.tuple #[.int .i64 ((firstOf s).1 : Int), .bool true], by simp [results, Tryz.results90, go_sem, c0, c1], by rw [h1], Below.of_its h4 hV (by omega) (Nat.le_refl _)⟩
end Go.Proofs.YtebcmicmklpflaaGreatDoor
