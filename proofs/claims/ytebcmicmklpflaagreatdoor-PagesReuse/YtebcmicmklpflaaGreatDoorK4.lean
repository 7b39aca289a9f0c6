import Derived.Test.YtebcmicmklpflaaGreatDoorProg
import Derived.WalkKit
import Derived.Tactics
import Derived.Tactics2
import Derived.Defers
import Derived.Laws.Pointers
import Derived.Laws.LoneSync
import Derived.RegionTactic
import Derived.RegionCalls
import Derived.ChangeAlike
import Derived.Maps.OwnSet
import Derived.Maps.Views
import Derived.StringKeys
import Derived.OwnWalkIn
import Derived.WalkSpells
import Derived.Carry
import Derived.Shelf.LaysM
import Derived.Shelf.Strconv.Clone
import Derived.Below
import Derived.Laws.AppendOwn
import Derived.Deep.AppendSrc
import Derived.Deep.RegionLaw
/- The lock of a FS, taken and let go by one alone. -/
namespace Go.Proofs.YtebcmicmklpflaaGreatDoor
open Go.RowKit
theorem hide {p : Prop} (h : p) : Hid p := h
theorem unhide {p : Prop} (h : Hid p) : p := h
set_option maxRecDepth 20000 in
theorem race_off (w : World) : (callFunc 135 #[]).run Tryz.prog w = .ok (.value (.tuple #[])) w := run_call_mark0 Tryz.func135 (by kernel_rfl) (by kernel_rfl) (by kernel_rfl) .disable (by kernel_rfl) w
set_option maxRecDepth 20000 in
theorem race_on (w : World) : (callFunc 137 #[]).run Tryz.prog w = .ok (.value (.tuple #[])) w := run_call_mark0 Tryz.func137 (by kernel_rfl) (by kernel_rfl) (by kernel_rfl) .enable (by kernel_rfl) w
set_option maxRecDepth 20000 in
theorem race_acq (a : Addr) (w : World) : (callFunc 138 #[.pointer (some a)]).run Tryz.prog w = .ok (.value (.tuple #[])) w := run_call_marked Tryz.func138 (by kernel_rfl) (by kernel_rfl) (by kernel_rfl) .acquire (by kernel_rfl) a w
set_option maxRecDepth 20000 in
theorem race_rel (a : Addr) (w : World) : (callFunc 140 #[.pointer (some a)]).run Tryz.prog w = .ok (.value (.tuple #[])) w := run_call_marked Tryz.func140 (by kernel_rfl) (by kernel_rfl) (by kernel_rfl) .releaseMerge (by kernel_rfl) a w
set_option maxRecDepth 20000 in
set_option maxHeartbeats 1000000 in
theorem unlock_in (a : Addr) (w : World) (hc : w.cell? a = some (.int .i32 1)) (hz : w.frozen? a = false) :
    Calls Tryz.prog 102 #[.pointer (some a)] w fun e w' => e = .returned (.tuple #[]) ∧ w' = w.setCell a (.int .i32 0) := by
  have hd := race_off
  have he := race_on
  have hr := race_rel
  have hadd := run_call_add (P := Tryz.prog) Tryz.func141 (by kernel_rfl) (by kernel_rfl) (by kernel_rfl) .i32 (by kernel_rfl) (y := -1) (s := 0) hc hz (by simp [go_sem]; rfl)
  have hcv := run_convert_to_unsafe (P := Tryz.prog) (src := 200) (dst := 204) Tryz.underlying200 Tryz.underlying204 (by kernel_rfl) hc
  go_enter Tryz.func102, Tryz.ntmps102
  go_wp2
  go_end0
  exact ⟨rfl, rfl⟩
set_option maxRecDepth 20000 in
set_option maxHeartbeats 1000000 in
theorem lock_in (a : Addr) (w : World) (hc : w.cell? a = some (.int .i32 0)) (hz : w.frozen? a = false) :
    Calls Tryz.prog 101 #[.pointer (some a)] w fun e w' => e = .returned (.tuple #[]) ∧ w' = w.setCell a (.int .i32 1) := by
  have hd := race_off
  have he := race_on
  have ha := race_acq
  have hcas := run_call_cas_hit (P := Tryz.prog) Tryz.func136 (by kernel_rfl) (by kernel_rfl) (by kernel_rfl) .i32 (by kernel_rfl) (y := 1) hc hz
  have hc' : (w.setCell a (.int .i32 1)).cell? a = some (.int .i32 1) := World.cell?_setCell_same w a _ hc
  have hcv := run_convert_to_unsafe (P := Tryz.prog) (src := 200) (dst := 204) Tryz.underlying200 Tryz.underlying204 (by kernel_rfl) hc'
  go_enter Tryz.func101, Tryz.ntmps101
  go_wp2
  refine bodyPost_ret (results_none rfl _ _ _) rfl ?_
  exact ⟨rfl, rfl⟩
set_option maxHeartbeats 1000000 in
theorem lock_free (a : Addr) (w : World) (hc : w.cell? a = some (.int .i32 0)) (hz : w.frozen? a = false) :
    Calls Tryz.prog 54 #[.pointer (some a)] w fun e w' => e = .returned (.tuple #[]) ∧ w' = w.setCell a (.int .i32 1) := by
  have hI := lock_in a w hc hz
  go_enter Tryz.func54, Tryz.ntmps54
  go_wp2_with (go_at_call 101; refine hI.mono ?_; rintro e w' ⟨rfl, rfl⟩)
  go_end0
  exact ⟨rfl, rfl⟩
set_option maxHeartbeats 1000000 in
theorem unlock_deferred (a : Addr) (u : FrameMode) (w : World) (hc : w.cell? a = some (.int .i32 1)) (hz : w.frozen? a = false) :
    CallsD Tryz.prog 55 #[.pointer (some a)] u w fun e u' w' => u' = u ∧ (e = .returned (.tuple #[]) ∧ w' = w.setCell a (.int .i32 0)) := by
  have hI := unlock_in a w hc hz
  go_enter_d Tryz.func55, Tryz.ntmps55
  go_wp2_with (go_at_call 102; refine hI.mono ?_; rintro e w' ⟨rfl, rfl⟩)
  go_end0
  exact ⟨rfl, rfl⟩
end Go.Proofs.YtebcmicmklpflaaGreatDoor
/- A table of a FS: its map from names to files. -/
namespace Go.Proofs.YtebcmicmklpflaaGreatDoor
open Go.RowKit Go.Maps
set_option linter.unusedSimpArgs false
/-- A pointer to a file, as it is read: its block. -/
def fileElem : Value → Option (DataW Unit × List MemPlace)
  | .pointer none => some (.nil, [])
  | .pointer (some ⟨g, 0, none⟩) => some (.lit (.int .i64 (g : Int)), [])
  | _ => none
/-- A pointer to a file's block. -/
def ptr : Option Nat → Value
  | none => .pointer none
  | some g => .pointer (some ⟨g, 0, none⟩)
def ptrD : Option Nat → DataW Unit
  | none => .nil
  | some g => .lit (.int .i64 (g : Int))
theorem fileElem_ptr (o : Option Nat) : fileElem (ptr o) = some (ptrD o, []) := by cases o <;> rfl
theorem fileElem_inv {v : Value} {o : Option Nat} {ps : List MemPlace} (h : fileElem v = some (ptrD o, ps)) : v = ptr o := by
  unfold fileElem at h
  split at h
  · cases o with
    | none => rfl
    | some g => simp [ptrD] at h
  · cases o with
    | none => simp [ptrD] at h
    | some g =>
      simp [ptrD] at h
      obtain ⟨h, -⟩ := h
      rw [show ptr (some g) = .pointer (some ⟨g, 0, none⟩) from rfl]
      congr 2
      congr 1
      omega
  · cases h
theorem strK : Keyed Tryz.prog 9 := string_keyed Tryz.underlying9
/-- What stands at a name, or what is told where there is none. -/
def atD (o : Option Nat) (zd : DataW Unit) : DataW Unit :=
  match o with
  | none => zd
  | some g => .lit (.int .i64 (g : Int))
theorem atD_nil (o : Option Nat) : atD o .nil = ptrD o := by cases o <;> rfl
/-- A table's map reads as L. -/
def TabIs (w : World) (m : Option Nat) (n : Nat) (L : ByteArray → Option Nat) : Prop :=
  match m with
  | none => ∀ s, L s = none
  | some mb => ∃ D : DataW Unit, w.ownsMap Tryz.prog 9 fileElem mb n D ∧ ∀ s : ByteArray, s.size ≤ maxLen → ∀ zd, D.atKey (.string s.data.toList) zd = atD (L s) zd
theorem key9 {s : ByteArray} (hs : s.size ≤ maxLen) : keyOf Tryz.prog 9 (.string s) = some (.string s.data.toList) := Go.WideMaps.keyOf_string_mk Tryz.underlying9 hs
theorem tab_look {w : World} {m : Option Nat} {n : Nat} {L : ByteArray → Option Nat} (h : TabIs w m n L) {s : ByteArray} (hs : s.size ≤ maxLen) : (Instr.lookup 87 (.map m) (.string s) false).run Tryz.prog w = .ok (ptr (L s)) w := by
  cases m with
  | none => rw [Maps.look_nil false strK Tryz.underlying87 (Tryz.zeroValue130 w) (key9 hs), h s]; rfl
  | some mb =>
    obtain ⟨D, ho, hD⟩ := h
    obtain ⟨v, ps, hr, hv⟩ := ho.lookup strK Tryz.underlying87 (Tryz.zeroValue130 w) (zd := .nil) (zp := []) rfl (key9 hs)
    rw [hD s hs, atD_nil] at hv
    rw [hr, fileElem_inv hv]
/-- A table's names with one that names another file, or none. -/
def upd (L : ByteArray → Option Nat) (s : ByteArray) (o : Option Nat) : ByteArray → Option Nat := fun t => if t = s then o else L t
theorem str_ne {s t : ByteArray} (h : t ≠ s) : Lit.string t.data.toList ≠ Lit.string s.data.toList := fun e => h (by
  injection e with e
  cases s; cases t
  simp at e
  rw [e])
theorem tab_store {w : World} {mb n : Nat} {L : ByteArray → Option Nat} (h : TabIs w (some mb) n L) {s : ByteArray} (hs : s.size ≤ maxLen) (hn : n < maxLen) (g : Nat) :
    ∃ w', (Instr.mapUpdate 87 (.map (some mb)) (.string s) (.pointer (some ⟨g, 0, none⟩))).run Tryz.prog w = .ok () w' ∧ TabIs w' (some mb) (n + 1) (upd L s (some g)) ∧ w.mapTurned w' mb := by
  obtain ⟨D, ho, hD⟩ := h
  obtain ⟨w', hr, ho', ht⟩ := ho.store strK Tryz.underlying87 hn (key9 hs) (fileElem_ptr (some g))
  refine ⟨w', hr, ⟨_, ho', fun t ht' zd => ?_⟩, ht⟩
  unfold upd
  by_cases e : t = s
  · subst e
    rw [if_pos rfl, atKey_put_same ho.isMap (by trivial)]
    rfl
  · rw [if_neg e, atKey_put_other (str_ne e), hD t ht']
theorem tab_drop {w : World} {mb n : Nat} {L : ByteArray → Option Nat} (h : TabIs w (some mb) n L) {s : ByteArray} (hs : s.size ≤ maxLen) (ty : TypeId) :
    ∃ w', (Builtin.delete_ #[87, 9] ty #[.map (some mb), .string s]).run Tryz.prog w = .ok (.tuple #[]) w' ∧ TabIs w' (some mb) n (upd L s none) ∧ w.mapTurned w' mb := by
  obtain ⟨D, ho, hD⟩ := h
  obtain ⟨w', hr, ho', ht⟩ := ho.drop strK Tryz.underlying87 (key9 hs) ty
  refine ⟨w', hr, ⟨_, ho', fun t ht' zd => ?_⟩, ht⟩
  unfold upd
  by_cases e : t = s
  · subst e
    rw [if_pos rfl, atKey_del_same]; rfl
  · rw [if_neg e, atKey_del_other (str_ne e), hD t ht']
theorem tab_new (w : World) : TabIs (w.alloc (.map #[] 0)) (some w.heap.size) 0 (fun _ => none) := ⟨.map [], World.ownsMap_made w _ _ _, fun _ _ _ => rfl⟩
theorem TabIs.same {w w' : World} {m : Option Nat} {n : Nat} {L : ByteArray → Option Nat} (h : TabIs w m n L) (hs : ∀ mb, m = some mb → w'.heap[mb]? = w.heap[mb]?) : TabIs w' m n L := by
  cases m with
  | none => exact h
  | some mb =>
    obtain ⟨D, ⟨es, clock, hb, r⟩, hD⟩ := h
    exact ⟨D, ⟨es, clock, (hs mb rfl).trans hb, r⟩, hD⟩
theorem tab_len {w : World} {m : Option Nat} {n : Nat} {L : ByteArray → Option Nat} (h : TabIs w m n L) (ty : TypeId) : ∃ k : Nat, (Builtin.len_ #[87] ty #[.map m]).run Tryz.prog w = .ok (.int .i64 (k : Int)) w ∧ (k ≤ n ∨ k = 0) := by
  cases m with
  | none => exact ⟨0, Maps.len_nil Tryz.underlying87 ty, .inr rfl⟩
  | some mb =>
    obtain ⟨D, ho, hD⟩ := h
    exact ⟨_, ho.len Tryz.underlying87 ty, .inl ho.size_le⟩
set_option maxRecDepth 20000 in
set_option maxHeartbeats 1000000 in
theorem has_any (f o : Nat) (m : Option Nat) (n : Nat) (L : ByteArray → Option Nat) (s : ByteArray) (w : World) (hc : w.cell? ⟨f, o, none⟩ = some (.map m)) (h : TabIs w m n L) (hs : s.size ≤ maxLen) :
    Calls Tryz.prog 67 #[.pointer (some ⟨f, o, none⟩), .string s] w fun e w' => e = .returned (.bool (L s).isSome) ∧ w' = w := by
  have hl := tab_look h hs
  cases hL : L s with
  | none =>
    rw [hL] at hl
    unfold ptr at hl
    go_enter Tryz.func67, Tryz.ntmps67
    go_wp2_with fail
    go_ret
    exact ⟨rfl, rfl⟩
  | some g =>
    rw [hL] at hl
    unfold ptr at hl
    go_enter Tryz.func67, Tryz.ntmps67
    go_wp2_with fail
    go_ret
    exact ⟨rfl, rfl⟩
end Go.Proofs.YtebcmicmklpflaaGreatDoor
/- The small functions of a table and of a FS: counts of names, drop, alone, dead, burn, New. -/
namespace Go.Proofs.YtebcmicmklpflaaGreatDoor
open Go.RowKit Go.Maps
set_option linter.unusedSimpArgs false
set_option maxRecDepth 20000 in
theorem load32 (a : Addr) (v : Int) (w : World) (hc : w.cell? a = some (.int .i32 v)) : Calls Tryz.prog 111 #[.pointer (some a)] w fun e w' => e = .returned (.int .i32 v) ∧ w' = w := by
  have hl := run_call_load (P := Tryz.prog) Tryz.func158 (by kernel_rfl) (by kernel_rfl) (by kernel_rfl) .i32 (by kernel_rfl) hc
  go_enter Tryz.func111, Tryz.ntmps111
  go_wp2
  go_ret
  exact ⟨rfl, rfl⟩
set_option maxRecDepth 20000 in
theorem add32 (a : Addr) (v y s : Int) (w : World) (hc : w.cell? a = some (.int .i32 v)) (hz : w.frozen? a = false) (hs : (Op.intArith .add .i32 v y).run Tryz.prog w = .ok (.int .i32 s) w) : Calls Tryz.prog 157 #[.pointer (some a), .int .i32 y] w fun e w' => e = .returned (.int .i32 s) ∧ w' = w.setCell a (.int .i32 s) := by
  have hl := run_call_add (P := Tryz.prog) Tryz.func141 (by kernel_rfl) (by kernel_rfl) (by kernel_rfl) .i32 (by kernel_rfl) (y := y) (s := s) hc hz hs
  go_enter Tryz.func157, Tryz.ntmps157
  go_wp2
  go_ret
  exact ⟨rfl, rfl⟩
theorem turned_ne {w w' : World} {mb : Nat} (h : w.mapTurned w' mb) {a : Addr} {v : Value} (hc : w.cell? a = some v) : a.block ≠ mb := by
  rintro e
  obtain ⟨es, clock, _, _, hb, _⟩ := h
  rw [← e] at hb
  simp [World.cell?, hb] at hc
theorem turned_block {w w' : World} {mb : Nat} (h : w.mapTurned w' mb) {k : Nat} (hk : k < w.heap.size) (hne : k ≠ mb) : w'.heap[k]? = w.heap[k]? := h.grown.block k hk (by simp [hne])
theorem cellLt {w : World} {x : Addr} {v : Value} (h : w.cell? x = some v) : x.block < w.heap.size := by
  unfold World.cell? at h
  split at h
  · rename_i c t fr e
    exact (Array.getElem?_eq_some_iff.1 e).1
  · simp at h
theorem turned_cell {w w' : World} {mb : Nat} (h : w.mapTurned w' mb) {a : Addr} {v : Value} (hc : w.cell? a = some v) : w'.cell? a = some v := by
  rw [World.cell?_of_block (turned_block h (cellLt hc) (turned_ne h hc))]; exact hc
theorem wrap32 {k y : Int} {w : World} (h1 : -1000000 ≤ k + y) (h2 : k + y ≤ 1000000) : (Op.intArith .add .i32 k y).run Tryz.prog w = .ok (.int .i32 (k + y)) w := by
  have e : IntKind.i32.wrap (k + y) = k + y := by simp [IntKind.wrap, IntKind.bits, IntKind.signed]; omega
  simp [go_sem, e]
set_option maxRecDepth 20000 in
set_option maxHeartbeats 1000000 in
theorem drop_none (f o : Nat) (m : Option Nat) (n : Nat) (L : ByteArray → Option Nat) (s : ByteArray) (w : World) (hc : w.cell? ⟨f, o, none⟩ = some (.map m)) (h : TabIs w m n L) (hs : s.size ≤ maxLen) (hL : L s = none) :
    Calls Tryz.prog 159 #[.pointer (some ⟨f, o, none⟩), .string s] w fun e w' => e = .returned (.tuple #[]) ∧ w' = w := by
  have hl := tab_look h hs
  rw [hL] at hl
  unfold ptr at hl
  go_enter Tryz.func159, Tryz.ntmps159
  go_wp2_with fail
  refine bodyPost_ret (results_none rfl _ _ _) rfl ⟨rfl, rfl⟩
set_option maxRecDepth 20000 in
set_option maxHeartbeats 1000000 in
theorem drop_some (f o : Nat) (mb : Nat) (n : Nat) (L : ByteArray → Option Nat) (s : ByteArray) (g : Nat) (k : Int) (w : World) (hc : w.cell? ⟨f, o, none⟩ = some (.map (some mb)))
    (h : TabIs w (some mb) n L) (hs : s.size ≤ maxLen) (hL : L s = some g) (hg1 : w.cell? ⟨g, 1, none⟩ = some (.int .i32 k)) (hgz : w.frozen? ⟨g, 1, none⟩ = false) (hk : 2 ≤ k ∧ k ≤ 100000) :
    Calls Tryz.prog 159 #[.pointer (some ⟨f, o, none⟩), .string s] w fun e w' => e = .returned (.tuple #[]) ∧ ∃ w1, w.mapTurned w1 mb ∧ TabIs w1 (some mb) n (upd L s none) ∧ w' = w1.setCell ⟨g, 1, none⟩ (.int .i32 (k + -1)) := by
  have hl := tab_look h hs
  rw [hL] at hl
  unfold ptr at hl
  obtain ⟨w1, hr1, hT1, ht1⟩ := tab_drop h hs 0
  have hg1' := turned_cell ht1 hg1
  have hz1 : w1.frozen? ⟨g, 1, none⟩ = false := by rw [ht1.frozen]; exact hgz
  have HA := hide (add32 ⟨g, 1, none⟩ k (-1) (k + -1) w1 hg1' hz1 (wrap32 (by omega) (by omega)))
  have HT := hide (And.intro ht1 hT1)
  clear h hT1 ht1
  go_enter Tryz.func159, Tryz.ntmps159
  go_wp2_with fail
  refine (unhide HA).mono ?_
  rintro e w2 ⟨rfl, rfl⟩
  have hne : ¬ (k + -1 = 0) := by omega
  go_wp2_with fail
  go_end0
  exact ⟨rfl, w1, (unhide HT).1, (unhide HT).2, rfl⟩
set_option maxRecDepth 20000 in
theorem dead_no (f : Nat) (w : World) (hf : w.cell? ⟨f, 8, none⟩ = some (.bool false))  : Calls Tryz.prog 72 #[.pointer (some ⟨f, 0, none⟩)] w fun e w' => e = .returned (.bool false) ∧ w' = w := by
  go_enter Tryz.func72, Tryz.ntmps72
  go_wp2_with fail
  go_ret
  exact ⟨rfl, rfl⟩
set_option maxRecDepth 20000 in
theorem burn_no (f : Nat) (w : World) (hf : w.cell? ⟨f, 8, none⟩ = some (.bool false)) : Calls Tryz.prog 73 #[.pointer (some ⟨f, 0, none⟩)] w fun e w' => e = .returned (.tuple #[]) ∧ w' = w := by
  go_enter Tryz.func73, Tryz.ntmps73
  go_wp2_with fail
  go_end0
  exact ⟨rfl, rfl⟩
set_option maxRecDepth 20000 in
theorem new_any (r : Nat) (w : World) (hr : r ≤ 1073741824) : Calls Tryz.prog 15 #[.int .i64 (r : Int)] w fun e w' => e = .returned (.tuple #[.pointer (some ⟨w.heap.size, 0, none⟩), .int .i64 0]) ∧ w' = w.alloc (.cells #[.int .i32 0, .int .u32 0, .int .i64 (r : Int), .map none, .int .i64 0, .map none, .int .i64 0, .slice none 0 0, .bool false, .int .i64 0] 92) := by
  go_enter Tryz.func15, Tryz.ntmps15
  go_wp2_with fail
  go_ret2
  exact ⟨rfl, rfl⟩
end Go.Proofs.YtebcmicmklpflaaGreatDoor
/- lay: a name names a file. -/
namespace Go.Proofs.YtebcmicmklpflaaGreatDoor
open Go.RowKit Go.Maps
set_option linter.unusedSimpArgs false
theorem set_other (w : World) (b o k : Nat) (v : Value) (h : k ≠ b) : (w.setCell ⟨b, o, none⟩ v).heap[k]? = w.heap[k]? := Below.heap_setCell _ _ _ _ h
theorem eq_nil (w : World) : (binOp BinOp.eql 87 (.map none) (.map none)).run Tryz.prog w = .ok (.bool true) w := run_eql_map_nil w 87 9 130 none Tryz.underlying87
theorem eq_some (g : Nat) (w : World) : (binOp BinOp.eql 87 (.map (some g)) (.map none)).run Tryz.prog w = .ok (.bool false) w := run_eql_map_nil w 87 9 130 (some g) Tryz.underlying87
/-- What lay leaves. -/
structure Laid (f o gx mb : Nat) (m : Option Nat) (k : Int) (n : Nat) (L : ByteArray → Option Nat) (s : ByteArray) (w w' : World) : Prop where
  os : w'.os = w.os
  tape : w'.tape = w.tape
  output : w'.output = w.output
  size : w.heap.size ≤ w'.heap.size
  rest : ∀ q, q < w.heap.size → q ≠ f → q ≠ gx → m ≠ some q → w'.heap[q]? = w.heap[q]?
  tb : w'.heap[f]? = (w.setCell ⟨f, o, none⟩ (.map (some mb))).heap[f]?
  fl : w'.heap[gx]? = (w.setCell ⟨gx, 1, none⟩ (.int .i32 (k + 1))).heap[gx]?
  tab : TabIs w' (some mb) (n + 1) (upd L s (some gx))
  new : m = some mb ∨ (m = none ∧ w.heap.size ≤ mb ∧ mb < w'.heap.size)
theorem set_self {w : World} {b o : Nat} {v : Value} (h : w.cell? ⟨b, o, none⟩ = some v) : (w.setCell ⟨b, o, none⟩ v).heap[b]? = w.heap[b]? := by
  unfold World.cell? at h
  split at h
  · rename_i c t fr e
    simp only [World.setCell, Array.getElem?_modify, e]
    simp
    obtain ⟨hi, he⟩ := Array.getElem?_eq_some_iff.1 h
    rw [← he]
    have hi' : o < c.size := hi
    have e5 : c.setIfInBounds o c[o] = c := by
      apply Array.ext
      · simp
      · intro j h1 h2
        rw [Array.getElem_setIfInBounds]
        split
        · rename_i e6; subst e6; rfl
        · rfl
    exact e5
  · simp at h
set_option maxRecDepth 20000 in
set_option maxHeartbeats 1000000 in
theorem lay_none (f o gx : Nat) (m : Option Nat) (n : Nat) (L : ByteArray → Option Nat) (s : ByteArray) (k : Int) (w : World) (hc : w.cell? ⟨f, o, none⟩ = some (.map m)) (hfz : w.frozen? ⟨f, o, none⟩ = false)
    (h : TabIs w m n L) (hs : s.size ≤ maxLen) (hn : n < maxLen) (hL : L s = none) (hg1 : w.cell? ⟨gx, 1, none⟩ = some (.int .i32 k)) (hgz : w.frozen? ⟨gx, 1, none⟩ = false) (hk : 0 ≤ k ∧ k ≤ 100000) (hne : gx ≠ f) (hm : m = none → n = 0) :
    Calls Tryz.prog 112 #[.pointer (some ⟨f, o, none⟩), .string s, .pointer (some ⟨gx, 0, none⟩)] w fun e w' => e = .returned (.tuple #[]) ∧ ∃ mb, Laid f o gx mb m k n L s w w' := by
  have HD := hide (drop_none f o m n L s w hc h hs hL)
  have HA := hide (add32 ⟨gx, 1, none⟩ k 1 (k + 1) w hg1 hgz (wrap32 (by omega) (by omega)))
  obtain ⟨w1, hw1⟩ : ∃ w1, w1 = w.setCell ⟨gx, 1, none⟩ (.int .i32 (k + 1)) := ⟨_, rfl⟩
  have hfl : f < w.heap.size := cellLt hc
  have hgl : gx < w.heap.size := cellLt hg1
  have hq1 := eq_nil
  have hq2 := eq_some
  have hs1 : w1.heap.size = w.heap.size := by rw [hw1]; simp [World.setCell]
  have hbf : w1.heap[f]? = w.heap[f]? := by rw [hw1]; exact set_other _ _ _ _ _ (Ne.symm hne)
  have hc1 : w1.cell? ⟨f, o, none⟩ = some (.map m) := by rw [World.cell?_of_block (w := w) (a := ⟨f, o, none⟩) hbf]; exact hc
  have hz1 : w1.frozen? ⟨f, o, none⟩ = false := by rw [World.frozen?_of_block (w := w) (a := ⟨f, o, none⟩) hbf]; exact hfz
  have hT1 : TabIs w1 m n L := h.same fun mb e => by
    rw [hw1]
    refine set_other _ _ _ _ _ fun e2 => ?_
    subst e e2
    obtain ⟨D, ⟨es, clock, hb, _⟩, _⟩ := h
    simp [World.cell?, hb] at hg1
  cases m with
  | some mb =>
    obtain ⟨w2, hr2, hT2, ht2⟩ := tab_store hT1 hs hn gx
    have HE : Hid (Laid f o gx mb (some mb) k n L s w w2) := by
      have hgr := ht2.grown
      have hz2 := hgr.size
      have hmf : f ≠ mb := turned_ne ht2 hc1
      have hgx1 : ∃ v, w1.cell? ⟨gx, 1, none⟩ = some v := ⟨.int .i32 (k + 1), by rw [hw1]; exact World.cell?_setCell_same w _ _ hg1⟩
      obtain ⟨v, hv⟩ := hgx1
      have hmg : gx ≠ mb := turned_ne ht2 hv
      refine ⟨?_, ?_, ?_, by omega, fun q h1 h2 h3 h4 => ?_, ?_, ?_, hT2, .inl rfl⟩
      · rw [hgr.os, hw1]; rfl
      · rw [hgr.tape, hw1]; rfl
      · rw [hgr.output, hw1]; rfl
      · rw [turned_block ht2 (by omega) (fun e => h4 (by rw [e])), hw1]; exact set_other _ _ _ _ _ h3
      · rw [turned_block ht2 (by show f < _; omega) hmf, hbf, set_self hc]
      · rw [turned_block ht2 (by show gx < _; omega) hmg, hw1]
    rw [← hw1] at HA
    clear h hT1 hT2 ht2 hbf hw1
    go_enter Tryz.func112, Tryz.ntmps112
    go_wp2_with fail
    refine (unhide HD).mono ?_
    rintro e w0 ⟨rfl, rfl⟩
    go_wp2_with fail
    refine (unhide HA).mono ?_
    rintro e w0' ⟨rfl, rfl⟩
    go_wp2_with fail
    go_end0
    exact ⟨rfl, mb, unhide HE⟩
  | none =>
    obtain rfl : n = 0 := hm rfl
    obtain ⟨w2, hw2⟩ : ∃ w2, w2 = (w1.setCell ⟨f, o, none⟩ (.map (some w1.heap.size))).alloc (.map #[] 0) := ⟨_, rfl⟩
    have hT2 : TabIs w2 (some w1.heap.size) 0 L := by
      have e : L = fun _ => none := funext fun t => hT1 t
      rw [e, hw2]
      have hn0 := tab_new (w1.setCell ⟨f, o, none⟩ (.map (some w1.heap.size)))
      rwa [show (w1.setCell ⟨f, o, none⟩ (.map (some w1.heap.size))).heap.size = w1.heap.size from by simp [World.setCell]] at hn0
    obtain ⟨w3, hr3, hT3, ht3⟩ := tab_store hT2 hs (by omega) gx
    have hs2 : w2.heap.size = w1.heap.size + 1 := by rw [hw2]; simp [World.setCell]
    have hlf : f < w1.heap.size := by show f < _; rw [hs1]; exact hfl
    have hlg : gx < w1.heap.size := by show gx < _; rw [hs1]; exact hgl
    have hold : ∀ q, q < w1.heap.size → q ≠ f → w2.heap[q]? = w1.heap[q]? := fun q h1 h2 => by rw [hw2, Below.heap_alloc _ _ _ (by simp [World.setCell]; exact h1)]; exact set_other _ _ _ _ _ h2
    have HE : Hid (Laid f o gx w1.heap.size none k 0 L s w w3) := by
      have hgr := ht3.grown
      have hz3 := hgr.size
      refine ⟨?_, ?_, ?_, by omega, fun q h1 h2 h3 _ => ?_, ?_, ?_, hT3, .inr ⟨rfl, by omega, by omega⟩⟩
      · rw [hgr.os, hw2, hw1]; rfl
      · rw [hgr.tape, hw2, hw1]; rfl
      · rw [hgr.output, hw2, hw1]; rfl
      · rw [turned_block ht3 (by omega) (by omega), hold q (by omega) h2, hw1]; exact set_other _ _ _ _ _ h3
      · rw [turned_block ht3 (by omega) (by omega), hw2]
        rw [Below.heap_alloc _ _ _ (by simp [World.setCell]; exact hlf)]
        simp only [World.setCell, Array.getElem?_modify, hbf]
      · rw [turned_block ht3 (by omega) (by omega), hold gx hlg hne, hw1]
    have hmk := run_makeMap (P := Tryz.prog) 87 w1
    have HW2 := hide hw2
    rw [← hw1] at HA
    rw [hw2] at hr3
    clear h hT1 hT2 hT3 ht3 hbf hw1 hold hw2 hs1 hs2
    go_enter Tryz.func112, Tryz.ntmps112
    go_wp2_with fail
    refine (unhide HD).mono ?_
    rintro e w0 ⟨rfl, rfl⟩
    go_wp2_with fail
    refine (unhide HA).mono ?_
    rintro e w0' ⟨rfl, rfl⟩
    go_wp2_with fail
    go_end0
    exact ⟨rfl, _, unhide HE⟩
end Go.Proofs.YtebcmicmklpflaaGreatDoor
/- full, alone, write, and the thing that Write plans. -/
namespace Go.Proofs.YtebcmicmklpflaaGreatDoor
open Go.RowKit Go.Maps
set_option linter.unusedSimpArgs false
set_option maxRecDepth 20000 in
set_option maxHeartbeats 1000000 in
theorem full_no (f o : Nat) (m : Option Nat) (n : Nat) (L : ByteArray → Option Nat) (w : World) (hc : w.cell? ⟨f, o, none⟩ = some (.map m)) (h : TabIs w m n L) (hn : n ≤ 1000) :
    Calls Tryz.prog 68 #[.pointer (some ⟨f, o, none⟩)] w fun e w' => e = .returned (.bool false) ∧ w' = w := by
  obtain ⟨k, hk, hkn⟩ := tab_len h 3
  have hkl : k ≤ 1000 := by omega
  clear hkn h
  go_enter Tryz.func68, Tryz.ntmps68
  go_wp2_with fail
  go_ret
  have e : decide ((16384 : Int) ≤ (k : Int)) = false := decide_eq_false (by omega)
  exact ⟨by rw [← e]; rfl, rfl⟩
set_option maxRecDepth 20000 in
set_option maxHeartbeats 1000000 in
theorem alone_none (f o : Nat) (m : Option Nat) (n : Nat) (L : ByteArray → Option Nat) (s : ByteArray) (w : World) (hc : w.cell? ⟨f, o, none⟩ = some (.map m)) (h : TabIs w m n L) (hs : s.size ≤ maxLen) (hL : L s = none) :
    Calls Tryz.prog 69 #[.pointer (some ⟨f, o, none⟩), .string s] w fun e w' => e = .returned (.int .i64 0) ∧ w' = w := by
  have hl := tab_look h hs
  rw [hL] at hl
  unfold ptr at hl
  go_enter Tryz.func69, Tryz.ntmps69
  go_wp2_with fail
  go_ret
  exact ⟨rfl, rfl⟩
set_option maxRecDepth 20000 in
set_option maxHeartbeats 1000000 in
theorem write_none (f o : Nat) (m : Option Nat) (n : Nat) (L : ByteArray → Option Nat) (s : ByteArray) (a : Option Addr) (d c : Nat) (u : Nat) (w : World) (hc : w.cell? ⟨f, o, none⟩ = some (.map m)) (hu : w.cell? ⟨f, o + 1, none⟩ = some (.int .i64 (u : Int))) (hfz : ∀ j, w.frozen? ⟨f, j, none⟩ = false)
    (h : TabIs w m n L) (hs : s.size ≤ maxLen) (hn : n < maxLen) (hL : L s = none) (hm : m = none → n = 0) (hb : u + d ≤ 1000000000000) :
    Calls Tryz.prog 71 #[.pointer (some ⟨f, o, none⟩), .string s, .slice a d c] w fun e w' => e = .returned (.tuple #[]) ∧ ∃ mb, Laid f o w.heap.size mb m 0 n L s ((w.setCell ⟨f, o + 1, none⟩ (.int .i64 ((u + d : Nat) : Int))).alloc (.cells #[.slice a d c, .int .i32 0] 129)) w' := by
  have r1 := hfz (o + 1)
  have hfl : f < w.heap.size := cellLt hc
  obtain ⟨w1, hw1⟩ : ∃ w1, w1 = (w.setCell ⟨f, o + 1, none⟩ (.int .i64 ((u + d : Nat) : Int))).alloc (.cells #[.slice a d c, .int .i32 0] 129) := ⟨_, rfl⟩
  have hs1 : w1.heap.size = w.heap.size + 1 := by rw [hw1]; simp [World.setCell]
  have hc1 : w1.cell? ⟨f, o, none⟩ = some (.map m) := by rw [hw1]; simp [go_sem, hc, hfl]
  have hz1 : w1.frozen? ⟨f, o, none⟩ = false := by have := hfz o; rw [hw1]; simp [go_sem, this, hfl]
  have hb0 : w1.heap[w.heap.size]? = some (.cells #[.slice a d c, .int .i32 0] 129) := by
    rw [hw1]
    show ((w.setCell ⟨f, o + 1, none⟩ (.int .i64 ((u + d : Nat) : Int))).heap.push _)[w.heap.size]? = _
    rw [Array.getElem?_push, if_pos (by simp [World.setCell])]
  have hg1 : w1.cell? ⟨w.heap.size, 1, none⟩ = some (.int .i32 0) := by simp [World.cell?, hb0]
  have hgz : w1.frozen? ⟨w.heap.size, 1, none⟩ = false := by simp [World.frozen?, hb0]
  have hT1 : TabIs w1 m n L := h.same fun mb e => by
    subst e
    obtain ⟨D, ho, _⟩ := id h
    have hmb := ho.lt
    have hmf : mb ≠ f := fun e2 => by
      subst e2
      obtain ⟨es, clock, hb', _⟩ := ho
      simp [World.cell?, hb'] at hc
    rw [hw1, Below.heap_alloc _ _ _ (by simp [World.setCell]; exact hmb)]
    exact set_other _ _ _ _ _ hmf
  have HL := hide (lay_none f o w.heap.size m n L s 0 w1 hc1 hz1 hT1 hs hn hL hg1 hgz (by omega) (by omega) hm)
  rw [hw1] at HL
  have ecast : ((u + d : Nat) : Int) = (u : Int) + (d : Int) := by omega
  rw [ecast] at HL ⊢
  clear h hT1 hc1 hz1 hg1 hgz hs1 hw1 hb0
  go_enter Tryz.func71, Tryz.ntmps71
  go_wp2_with fail
  refine (unhide HL).mono ?_
  rintro e w2 ⟨rfl, hE⟩
  have HE := hide hE
  clear hE
  go_wp2_with fail
  go_end0
  exact ⟨rfl, unhide HE⟩
end Go.Proofs.YtebcmicmklpflaaGreatDoor
/- strings.Clone and bytes.Clone: the same bytes in memory of their own. -/
namespace Go.Proofs.YtebcmicmklpflaaGreatDoor
open Go.Shelf Go.RowKit
def laysClone_ren : Go.Shelf.Ren := ⟨fun | 316 => 96 | n => n, fun | 9 => 9 | 3 => 3 | 4 => 4 | 37 => 39 | 0 => 0 | 127 => 191 | 5 => 5 | n => n, fun | n => n⟩
theorem laysClone : Go.Proofs.LaysM.n316 Tryz.prog laysClone_ren := {
  mixed := by kernel_rfl
  f316 := Tryz.func96.trans (congrArg some (by kernel_rfl))
  t0 := Tryz.underlying0
  a0 := Tryz.isAgg0
  z0 := Tryz.sizeOf0
  v0 := Tryz.zeroValue0
  t3 := Tryz.underlying3
  a3 := Tryz.isAgg3
  z3 := Tryz.sizeOf3
  v3 := Tryz.zeroValue3
  t4 := Tryz.underlying4
  a4 := Tryz.isAgg4
  z4 := Tryz.sizeOf4
  v4 := Tryz.zeroValue4
  t9 := Tryz.underlying9
  a9 := Tryz.isAgg9
  z9 := Tryz.sizeOf9
  v9 := Tryz.zeroValue9
  t37 := Tryz.underlying39
  a37 := Tryz.isAgg39
  z37 := Tryz.sizeOf39
  v37 := Tryz.zeroValue39
  t127 := Tryz.underlying191
  a127 := Tryz.isAgg191
  z127 := Tryz.sizeOf191
  v127 := Tryz.zeroValue191
  t5 := Tryz.underlying5
  a5 := Tryz.isAgg5
  z5 := Tryz.sizeOf5
  v5 := Tryz.zeroValue5
  i0 := by kernel_rfl
  i3 := by kernel_rfl
  i4 := by kernel_rfl
  i5 := by kernel_rfl
  i9 := by kernel_rfl
  i37 := by kernel_rfl
  i127 := by kernel_rfl }
theorem clone_in (s : ByteArray) (w : World) (hlim : s.size ≤ 281474976710656) :
    Calls Tryz.prog 96 #[.string s] w fun e w' => e = .returned (.string s) ∧ Below w.heap.size w w' := Any.stringslite_Clone laysClone s w hlim
set_option maxHeartbeats 400000 in
theorem clone_any (s : ByteArray) (w : World) (hlim : s.size ≤ 281474976710656) :
    Calls Tryz.prog 48 #[.string s] w fun e w' => e = .returned (.string s) ∧ Below w.heap.size w w' := by
  go_enter Tryz.func48, Tryz.ntmps48
  go_wp2_with (go_at_call 96; refine (clone_in s _ hlim).mono ?_; rintro e w' ⟨rfl, hb⟩)
  go_ret
  exact ⟨rfl, hb⟩
/-- Bytes as cells. -/
def byteVals (d : List UInt8) : List Value := d.map fun b => .int .u8 (b.toNat : Int)
/-- A slice whose bytes are known, in blocks below a bound. -/
def Row (hi : Nat) (w : World) (v : Value) (d : List UInt8) : Prop :=
  ∃ a c, v = .slice a d.length c ∧ d.length ≤ c ∧ (0 < d.length → ∃ g o, a = some ⟨g, o, none⟩ ∧ g < hi ∧ ∀ j u, (byteVals d)[j]? = some u → w.cell? ⟨g, o + j, none⟩ = some u)
def app22 (ty : TypeId) (args : Array Value) : Sem Value := Builtin.append_ #[39, 39] ty args
@[go_sem ↓] theorem append_app22 (ty : TypeId) (args : Array Value) : Builtin.append_ #[39, 39] ty args = app22 ty args := rfl
theorem info5 : ∃ i, Tryz.prog.info? 5 = some i ∧ i.zero = some (.int .u8 0) ∧ i.size = 1 ∧ i.bytes = 1 := by
  have h : (Tryz.prog.info? 5).map (fun i => (i.zero, i.size, i.bytes)) = some (some (.int .u8 0), 1, 1) := by kernel_rfl
  cases hq : Tryz.prog.info? 5 with
  | none => simp [hq] at h
  | some i => simp [hq] at h; exact ⟨i, rfl, h.1, h.2.1, h.2.2⟩
theorem owns_new (w : World) (e : TypeId) (size : Nat) : (w.alloc (.cells #[] e)).ownsRow w.heap.size e size (.slice (some ⟨w.heap.size, 0, none⟩) 0 0) 0 [] :=
  ⟨by simp, .inr ⟨w.heap.size, 0, #[], rfl, Nat.le_refl _, by show (w.heap.push _)[w.heap.size]? = _; rw [Array.getElem?_push, if_pos rfl], Nat.le_refl _, Nat.zero_le _, by simp, by simp⟩⟩
set_option maxRecDepth 20000 in
set_option maxHeartbeats 1000000 in
theorem bclone_any (hi : Nat) (a : Option Addr) (n c : Nat) (d : List UInt8) (w : World) (h : Row hi w (.slice a n c) d) (hn : d.length = n) (hhi : hi ≤ w.heap.size) (hmax : n ≤ 1000000000) :
    Calls Tryz.prog 57 #[.slice a n c] w fun e w' => ∃ v, e = .returned v ∧ Row w'.heap.size w' v d ∧ Below w.heap.size w w' := by
  have hq := fun w => Lib.run_eql_slice_nil (P := Tryz.prog) w 39 5 a n c 0 0 Tryz.underlying39
  cases a with
  | none =>
    have hn0 : d = [] := by
      obtain ⟨a', c', e, _, hx⟩ := h
      cases d with
      | nil => rfl
      | cons b r =>
        injection e with e1
        obtain ⟨g, o, ea, _⟩ := hx (by simp)
        rw [ea] at e1; cases e1
    subst hn0
    have HE : Hid (Row w.heap.size w (.slice none 0 0) []) := ⟨none, 0, rfl, Nat.le_refl _, fun h => by simp at h⟩
    clear h
    go_enter Tryz.func57, Tryz.ntmps57
    go_wp2_with fail
    go_ret
    exact ⟨_, rfl, unhide HE, Below.refl _ _⟩
  | some b =>
    obtain ⟨i, hi', hz, hsz, hby⟩ := info5
    have hA : Below w.heap.size w (w.alloc (.cells #[] 5)) := (Below.refl _ _).alloc (Nat.le_refl _) _
    obtain ⟨v', w', hr, hown, hgr, -⟩ := run_append_own (P := Tryz.prog) (w.alloc (.cells #[] 5)) w.heap.size 39 39 5 i (.int .u8 0) 1 1 Tryz.underlying39 hi' hz hsz hby rfl (by omega) (.slice (some ⟨w.heap.size, 0, none⟩) 0 0) 0 [] (owns_new w 5 1) b n c (byteVals d) (by simp [byteVals, hn])
      (fun j u hj => by
        obtain ⟨a', c', e, _, hx⟩ := h
        injection e with e1
        have hd : 0 < d.length := by have := (List.getElem?_eq_some_iff.1 hj).1; simp [byteVals] at this; omega
        obtain ⟨g, o, ea, hg, hcell⟩ := hx hd
        rw [ea] at e1
        injection e1 with e1
        subst e1
        rw [show (⟨g, o, none⟩ : Addr).add j = ⟨g, o + j, none⟩ from by unfold Addr.add; split <;> simp_all, hA.cell (p := ⟨g, o + j, none⟩) (by show g < _; omega)]
        exact hcell j u hj)
      (fun u hu => by obtain ⟨b, -, rfl⟩ := List.mem_map.1 hu; rfl) (by simp only [maxLen]; omega) (by omega) (by simp)
    rw [List.nil_append, Nat.zero_add] at hown
    have HE : Hid (Row w'.heap.size w' v' d ∧ Below w.heap.size w w') := by
      refine ⟨?_, hA.grown hgr (by simp) (fun k hk => by simp [Value.ownBlock] at hk; omega)⟩
      rcases hown.2 with ⟨e, h0⟩ | ⟨g, cap, cur, e, hg, hh, hcap, hm, hszc, ht⟩
      · exact ⟨none, 0, by rw [e, hn, h0], by omega, fun h => by omega⟩
      · refine ⟨_, cap, by rw [e, hn], by omega, fun _ => ⟨g, 0, rfl, (Array.getElem?_eq_some_iff.1 hh).1, fun j u hj => ?_⟩⟩
        simp only [World.cell?, hh, Nat.zero_add]
        rw [← ht] at hj
        have hj2 := (List.getElem?_eq_some_iff.1 hj).1
        rw [List.length_take] at hj2
        rw [List.getElem?_take_of_lt (by omega)] at hj
        simpa using hj
    have hr' : ∀ ty, (app22 ty #[.slice (some ⟨w.heap.size, 0, none⟩) 0 0, .slice (some b) n c]).run Tryz.prog (w.alloc (.cells #[] 5)) = .ok v' w' := fun _ => hr
    clear h hown hgr hr hA
    go_enter Tryz.func57, Tryz.ntmps57
    go_wp2_with fail
    go_ret
    exact ⟨_, rfl, unhide HE⟩
end Go.Proofs.YtebcmicmklpflaaGreatDoor
/- A table of a FS, as mathematics and in memory; a name that is dropped. -/
namespace Go.Proofs.YtebcmicmklpflaaGreatDoor
open Go.RowKit Go.Maps
set_option linter.unusedSimpArgs false
/-- A table: names with the stamps of files; files' bytes, how many names each has, how many bytes are counted. -/
structure Tb where
  N : ByteArray → Option Nat
  D : Nat → List UInt8
  c : Nat → Int
  u : Int
def updN {A : Type} (g : Nat → A) (i : Nat) (v : A) : Nat → A := fun j => if j = i then v else g j
theorem updN_same {A : Type} (g : Nat → A) (i : Nat) (v : A) : updN g i v i = v := by simp [updN]
theorem updN_ne {A : Type} (g : Nat → A) {i j : Nat} (v : A) (h : j ≠ i) : updN g i v j = g j := by simp [updN, h]
def Tb.drop (T : Tb) (s : ByteArray) : Tb :=
  match T.N s with
  | none => T
  | some i => ⟨upd T.N s none, T.D, updN T.c i (T.c i + -1), if T.c i + -1 = 0 then T.u - ((T.D i).length : Int) else T.u⟩
def Tb.set (T : Tb) (s : ByteArray) (i : Nat) : Tb := ⟨upd T.N s (some i), T.D, updN T.c i (T.c i + 1), T.u⟩
def Tb.lay (T : Tb) (s : ByteArray) (i : Nat) : Tb := (T.drop s).set s i
def Tb.add (T : Tb) (d : List UInt8) (i : Nat) : Tb := ⟨T.N, updN T.D i d, updN T.c i 0, T.u + (d.length : Int)⟩
def Tb.write (T : Tb) (s : ByteArray) (d : List UInt8) (i : Nat) : Tb := (T.add d i).lay s i
def Tb.put (T : Tb) (i : Nat) (d : List UInt8) : Tb := ⟨T.N, updN T.D i d, T.c, T.u + ((d.length : Int) - ((T.D i).length : Int))⟩
def Tb.fill (T : Tb) (s : ByteArray) (d : List UInt8) : Tb :=
  match T.N s with
  | none => T
  | some i => T.put i d
def Tb.move (T : Tb) (old s : ByteArray) : Tb :=
  if old = s then T else
  match T.N old with
  | none => T
  | some i => (T.lay s i).drop old
/-- A slice's bytes, where the bytes of each data block are known. -/
def DataIs (K : Nat → Option (List UInt8)) (v : Value) (d : List UInt8) : Prop :=
  ∃ a c, v = .slice a d.length c ∧ d.length ≤ c ∧ c ≤ maxLen ∧ ((a = none ∧ c = 0) ∨ ∃ g l, a = some ⟨g, 0, none⟩ ∧ K g = some l ∧ d <+: l)
/-- A table in memory. -/
structure TabM (w : World) (K : Nat → Option (List UInt8)) (m : Option Nat) (n : Nat) (T : Tb) (F : Nat → Prop) (b : Nat → Nat) (h : Nat → Value) : Prop where
  tab : TabIs w m n (fun s => (T.N s).map b)
  nil : m = none → n = 0
  live : ∀ s i, T.N s = some i → F i
  file : ∀ i, F i → w.heap[b i]? = some (.cells #[h i, .int .i32 (T.c i)] 129 (0, 0))
  inj : ∀ i j, F i → F j → b i = b j → i = j
  data : ∀ i, F i → DataIs K (h i) (T.D i)
/-- Bounds of its numbers. -/
structure Tb.Ok (T : Tb) (n : Nat) : Prop where
  cnt : ∀ i, -(n : Int) ≤ T.c i ∧ T.c i ≤ n
  ub : -((n : Int) * 1048576) ≤ T.u ∧ T.u ≤ (n : Int) * 1048576
  dl : ∀ i, (T.D i).length ≤ 1048576
/-- What a thing that is done to a table leaves as it was. -/
structure TFr (f : Nat) (m : Option Nat) (F : Nat → Prop) (b : Nat → Nat) (w w' : World) : Prop where
  os : w'.os = w.os
  tape : w'.tape = w.tape
  output : w'.output = w.output
  size : w.heap.size ≤ w'.heap.size
  rest : ∀ q, q < w.heap.size → q ≠ f → m ≠ some q → (∀ i, F i → q ≠ b i) → w'.heap[q]? = w.heap[q]?
theorem TFr.refl (f : Nat) (m : Option Nat) (F : Nat → Prop) (b : Nat → Nat) (w : World) : TFr f m F b w w := ⟨rfl, rfl, rfl, Nat.le_refl _, fun _ _ _ _ _ => rfl⟩
theorem TFr.trans {f : Nat} {m m' : Option Nat} {F F' : Nat → Prop} {b b' : Nat → Nat} {w w1 w2 : World} (h : TFr f m F b w w1) (k : TFr f m' F' b' w1 w2) (hm : ∀ q, m' = some q → m = some q ∨ w.heap.size ≤ q) (hF : ∀ i, F' i → (F i ∧ b' i = b i) ∨ w.heap.size ≤ b' i) : TFr f m F b w w2 :=
  ⟨k.os.trans h.os, k.tape.trans h.tape, k.output.trans h.output, Nat.le_trans h.size k.size, fun q h1 h2 h3 h4 => by
    rw [k.rest q (Nat.lt_of_lt_of_le h1 h.size) h2 (fun e => ?_) (fun i hi e => ?_), h.rest q h1 h2 h3 h4]
    · rcases hm q e with e2 | e2
      · exact h3 e2
      · omega
    · rcases hF i hi with ⟨hf, e2⟩ | e2
      · exact h4 i hf (e.trans e2)
      · omega⟩
theorem TFr.same {f : Nat} {m : Option Nat} {F : Nat → Prop} {b : Nat → Nat} {w w1 w2 : World} (h : TFr f m F b w w1) (k : TFr f m F b w1 w2) : TFr f m F b w w2 := h.trans k (fun _ e => .inl e) (fun _ hi => .inl ⟨hi, rfl⟩)
theorem updN_all {A : Type} {p : A → Prop} {g : Nat → A} {i : Nat} {v : A} (hv : p v) (hg : ∀ j, p (g j)) (j : Nat) : p (updN g i v j) := by
  unfold updN
  split
  · exact hv
  · exact hg j
def InB (n : Nat) (x : Int) : Prop := -(n : Int) ≤ x ∧ x ≤ n
def InU (n : Nat) (x : Int) : Prop := -((n : Int) * 1048576) ≤ x ∧ x ≤ (n : Int) * 1048576
theorem InB.mono {n n' : Nat} {x : Int} (h : InB n x) (hn : n ≤ n') : InB n' x := ⟨by have := h.1; omega, by have := h.2; omega⟩
theorem InU.mono {n n' : Nat} {x : Int} (h : InU n x) (hn : n ≤ n') : InU n' x := ⟨by have := h.1; omega, by have := h.2; omega⟩
theorem InB.add {n : Nat} {x y : Int} (h : InB n x) (hy : -1 ≤ y ∧ y ≤ 1) : InB (n + 1) (x + y) := ⟨by have := h.1; omega, by have := h.2; omega⟩
theorem InU.add {n : Nat} {x y : Int} (h : InU n x) (hy : -1048576 ≤ y ∧ y ≤ 1048576) : InU (n + 1) (x + y) := ⟨by have := h.1; omega, by have := h.2; omega⟩
theorem InU.sub {n : Nat} {x y : Int} (h : InU n x) (hy : -1048576 ≤ y ∧ y ≤ 1048576) : InU (n + 1) (x - y) := ⟨by have := h.1; omega, by have := h.2; omega⟩
theorem Tb.Ok.mono {T : Tb} {n n' : Nat} (h : T.Ok n) (hn : n ≤ n') : T.Ok n' := ⟨fun i => InB.mono (h.cnt i) hn, InU.mono h.ub hn, h.dl⟩
theorem Tb.Ok.drop {T : Tb} {n : Nat} (h : T.Ok n) (s : ByteArray) : (T.drop s).Ok (n + 1) := by
  unfold Tb.drop
  split
  · exact h.mono (by omega)
  · rename_i i _
    refine ⟨updN_all (p := InB (n + 1)) (InB.add (h.cnt i) (by omega)) (fun j => InB.mono (h.cnt j) (by omega)), ?_, h.dl⟩
    have h2 := h.dl i
    by_cases h0 : T.c i + -1 = 0
    · simp only [if_pos h0]
      exact InU.sub h.ub (by omega)
    · simp only [if_neg h0]
      exact InU.mono h.ub (by omega)
theorem Tb.Ok.set {T : Tb} {n : Nat} (h : T.Ok n) (s : ByteArray) (i : Nat) : (T.set s i).Ok (n + 1) :=
  ⟨updN_all (p := InB (n + 1)) (InB.add (h.cnt i) (by omega)) (fun j => InB.mono (h.cnt j) (by omega)), InU.mono h.ub (by omega), h.dl⟩
theorem Tb.Ok.lay {T : Tb} {n : Nat} (h : T.Ok n) (s : ByteArray) (i : Nat) : (T.lay s i).Ok (n + 2) := (h.drop s).set s i
theorem Tb.Ok.add {T : Tb} {n : Nat} (h : T.Ok n) (d : List UInt8) (i : Nat) (hd : d.length ≤ 1048576) : (T.add d i).Ok (n + 1) :=
  ⟨updN_all (p := InB (n + 1)) ⟨by omega, by omega⟩ (fun j => InB.mono (h.cnt j) (by omega)), InU.add h.ub (by omega), updN_all (p := fun d : List UInt8 => d.length ≤ 1048576) hd h.dl⟩
theorem Tb.Ok.write {T : Tb} {n : Nat} (h : T.Ok n) (s : ByteArray) (d : List UInt8) (i : Nat) (hd : d.length ≤ 1048576) : (T.write s d i).Ok (n + 3) := (h.add d i hd).lay s i
theorem Tb.Ok.put {T : Tb} {n : Nat} (h : T.Ok n) (i : Nat) (d : List UInt8) (hd : d.length ≤ 1048576) : (T.put i d).Ok (n + 1) :=
  ⟨fun j => InB.mono (h.cnt j) (by omega), InU.add h.ub (by have := h.dl i; omega), updN_all (p := fun d : List UInt8 => d.length ≤ 1048576) hd h.dl⟩
theorem Tb.Ok.fill {T : Tb} {n : Nat} (h : T.Ok n) (s : ByteArray) (d : List UInt8) (hd : d.length ≤ 1048576) : (T.fill s d).Ok (n + 1) := by
  unfold Tb.fill
  split
  · exact h.mono (by omega)
  · exact h.put _ d hd
theorem Tb.Ok.move {T : Tb} {n : Nat} (h : T.Ok n) (old s : ByteArray) : (T.move old s).Ok (n + 3) := by
  unfold Tb.move
  split
  · exact h.mono (by omega)
  · split
    · exact h.mono (by omega)
    · exact (h.lay s _).drop old
theorem set_file {w : World} {g : Nat} {x y v : Value} {t : TypeId} {fz : Nat × Nat} (h : w.heap[g]? = some (.cells #[x, y] t fz)) : (w.setCell ⟨g, 1, none⟩ v).heap[g]? = some (.cells #[x, v] t fz) := by
  simp [World.setCell, Array.getElem?_modify, h]
theorem set_file0 {w : World} {g : Nat} {x y v : Value} {t : TypeId} {fz : Nat × Nat} (h : w.heap[g]? = some (.cells #[x, y] t fz)) : (w.setCell ⟨g, 0, none⟩ v).heap[g]? = some (.cells #[v, y] t fz) := by
  simp [World.setCell, Array.getElem?_modify, h]
theorem size_set (w : World) (a : Addr) (v : Value) : (w.setCell a v).heap.size = w.heap.size := by simp [World.setCell]
theorem upd_map {N : ByteArray → Option Nat} {b : Nat → Nat} (s : ByteArray) (o : Option Nat) : (fun t => (upd N s o t).map b) = upd (fun t => (N t).map b) s (o.map b) := by
  funext t
  unfold upd
  split <;> rfl
theorem TabIs.mono {w : World} {m : Option Nat} {n n' : Nat} {L : ByteArray → Option Nat} (h : TabIs w m n L) (hn : n ≤ n') : TabIs w m n' L := by
  cases m with
  | none => exact h
  | some mb => obtain ⟨D, ho, hD⟩ := h; exact ⟨D, ho.mono hn, hD⟩
theorem TabIs.block {w : World} {mb n : Nat} {L : ByteArray → Option Nat} (h : TabIs w (some mb) n L) : ∃ es cl, w.heap[mb]? = some (.map es cl) := by
  obtain ⟨D, ⟨es, cl, hb, _⟩, _⟩ := h
  exact ⟨es, cl, hb⟩
theorem TabM.ne {w : World} {K : Nat → Option (List UInt8)} {m : Option Nat} {n : Nat} {T : Tb} {F : Nat → Prop} {b : Nat → Nat} {h : Nat → Value} (hT : TabM w K m n T F b h) {i : Nat} (hi : F i) : m ≠ some (b i) := by
  rintro rfl
  obtain ⟨es, cl, hb⟩ := hT.tab.block
  rw [hT.file i hi] at hb
  cases hb
theorem TabM.mono {w : World} {K : Nat → Option (List UInt8)} {m : Option Nat} {n n' : Nat} {T : Tb} {F : Nat → Prop} {b : Nat → Nat} {h : Nat → Value} (hT : TabM w K m n T F b h) (hn : n ≤ n') (hm : m = none → n' = 0) : TabM w K m n' T F b h :=
  ⟨hT.tab.mono hn, hm, hT.live, hT.file, hT.inj, hT.data⟩
/-- It stands where its blocks stand. -/
theorem TabM.kept {w w' : World} {K : Nat → Option (List UInt8)} {m : Option Nat} {n : Nat} {T : Tb} {F : Nat → Prop} {b : Nat → Nat} {h : Nat → Value} (hT : TabM w K m n T F b h) (hm : ∀ q, m = some q → w'.heap[q]? = w.heap[q]?) (hf : ∀ i, F i → w'.heap[b i]? = w.heap[b i]?) : TabM w' K m n T F b h :=
  ⟨hT.tab.same hm, hT.nil, hT.live, fun i hi => (hf i hi).trans (hT.file i hi), hT.inj, hT.data⟩
end Go.Proofs.YtebcmicmklpflaaGreatDoor
/- A name that is dropped, and one that is laid, in any table. -/
namespace Go.Proofs.YtebcmicmklpflaaGreatDoor
open Go.RowKit Go.Maps
set_option linter.unusedSimpArgs false
theorem wrap64 {x : Int} (h : -9000000000000000 ≤ x ∧ x ≤ 9000000000000000) : IntKind.i64.wrap x = x := by rw [IntKind.wrap_i64]; omega
/-- The table's names and counts, one name less. -/
theorem drop_tab {w w1 : World} {K : Nat → Option (List UInt8)} {mb n : Nat} {T : Tb} {F : Nat → Prop} {b : Nat → Nat} {h : Nat → Value} {s : ByteArray} {i : Nat} (hT : TabM w K (some mb) n T F b h) (hN : T.N s = some i) (ht : w.mapTurned w1 mb) (h1 : TabIs w1 (some mb) n (upd (fun t => (T.N t).map b) s none)) :
    TabM (w1.setCell ⟨b i, 1, none⟩ (.int .i32 (T.c i + -1))) K (some mb) n (T.drop s) F b h := by
  have hi := hT.live s i hN
  have hd : T.drop s = ⟨upd T.N s none, T.D, updN T.c i (T.c i + -1), if T.c i + -1 = 0 then T.u - ((T.D i).length : Int) else T.u⟩ := by unfold Tb.drop; rw [hN]
  have hne := hT.ne hi
  have hblk : ∀ j, F j → w1.heap[b j]? = w.heap[b j]? := fun j hj => turned_block ht ((Array.getElem?_eq_some_iff.1 (hT.file j hj)).1) (fun e => hT.ne hj (by rw [e]))
  rw [hd]
  refine ⟨?_, fun e => (by cases e), fun t j hj => ?_, fun j hj => ?_, hT.inj, hT.data⟩
  · rw [upd_map]
    refine h1.same fun q e => ?_
    cases e
    exact set_other _ _ _ _ _ (fun e => hne (by rw [e]))
  · have hj' : upd T.N s none t = some j := hj
    unfold upd at hj'
    split at hj'
    · cases hj'
    · exact hT.live t j hj'
  · show _ = some (Obj.cells #[h j, .int .i32 (updN T.c i (T.c i + -1) j)] 129 (0, 0))
    by_cases e : j = i
    · subst e
      rw [updN_same]
      exact set_file ((hblk j hj).trans (hT.file j hj))
    · rw [updN_ne _ _ e, set_other _ _ _ _ _ (fun e2 => e (hT.inj j i hj hi e2)), hblk j hj, hT.file j hj]
set_option maxRecDepth 20000 in
set_option maxHeartbeats 1000000 in
theorem drop_any (f o : Nat) (K : Nat → Option (List UInt8)) (m : Option Nat) (n k : Nat) (T : Tb) (F : Nat → Prop) (b : Nat → Nat) (h : Nat → Value) (s : ByteArray) (w : World) (hc : w.cell? ⟨f, o, none⟩ = some (.map m)) (hu : w.cell? ⟨f, o + 1, none⟩ = some (.int .i64 T.u)) (hfz : w.frozen? ⟨f, o + 1, none⟩ = false)
    (hT : TabM w K m n T F b h) (hok : T.Ok k) (hk : k ≤ 100000) (hs : s.size ≤ maxLen) (hbf : ∀ i, F i → b i ≠ f) :
    Calls Tryz.prog 159 #[.pointer (some ⟨f, o, none⟩), .string s] w fun e w' => e = .returned (.tuple #[]) ∧ TabM w' K m n (T.drop s) F b h ∧ TFr f m F b w w' ∧ w'.heap[f]? = (w.setCell ⟨f, o + 1, none⟩ (.int .i64 (T.drop s).u)).heap[f]? := by
  cases hN : T.N s with
  | none =>
    have hd : T.drop s = T := by unfold Tb.drop; rw [hN]
    rw [hd]
    refine (drop_none f o m n _ s w hc hT.tab hs (by simp [hN])).mono ?_
    rintro e w' ⟨rfl, rfl⟩
    exact ⟨rfl, hT, TFr.refl _ _ _ _ _, (set_self hu).symm⟩
  | some i =>
    have hi := hT.live s i hN
    have hfi := hT.file i hi
    have hmn : ∃ mb, m = some mb := by
      cases m with
      | none => have := hT.tab s; simp [hN] at this
      | some mb => exact ⟨mb, rfl⟩
    obtain ⟨mb, rfl⟩ := hmn
    have hmf : mb ≠ f := fun e => by
      obtain ⟨es, cl, hb⟩ := hT.tab.block
      rw [e] at hb
      simp [World.cell?, hb] at hc
    have hl := tab_look hT.tab hs
    simp only [hN, Option.map_some] at hl
    unfold ptr at hl
    obtain ⟨w1, hr1, hT1, ht1⟩ := tab_drop hT.tab hs 0
    have hg1 : w.cell? ⟨b i, 1, none⟩ = some (.int .i32 (T.c i)) := by simp [World.cell?, hfi]
    have hg0 : w.cell? ⟨b i, 0, none⟩ = some (h i) := by simp [World.cell?, hfi]
    have hgz : w.frozen? ⟨b i, 1, none⟩ = false := by simp [World.frozen?, hfi]
    have hg1' := turned_cell ht1 hg1
    have hz1 : w1.frozen? ⟨b i, 1, none⟩ = false := by rw [ht1.frozen]; exact hgz
    have hcb := hok.cnt i
    have HA := hide (add32 ⟨b i, 1, none⟩ (T.c i) (-1) (T.c i + -1) w1 hg1' hz1 (wrap32 (by omega) (by omega)))
    have HM := hide (drop_tab hT hN ht1 hT1)
    have hgr := ht1.grown
    have HF : Hid (TFr f (some mb) F b w (w1.setCell ⟨b i, 1, none⟩ (.int .i32 (T.c i + -1)))) := by
      refine ⟨hgr.os, hgr.tape, hgr.output, by rw [size_set]; exact hgr.size, fun q h1 h2 h3 h4 => ?_⟩
      rw [set_other _ _ _ _ _ (h4 i hi), turned_block ht1 h1 (fun e => h3 (by rw [e]))]
    have hfl : f < w.heap.size := cellLt hc
    have hbf1 : w1.heap[f]? = w.heap[f]? := turned_block ht1 hfl (Ne.symm hmf)
    have hbf2 : (w1.setCell ⟨b i, 1, none⟩ (.int .i32 (T.c i + -1))).heap[f]? = w.heap[f]? := by rw [set_other _ _ _ _ _ (Ne.symm (hbf i hi)), hbf1]
    have hud : (T.drop s).u = if T.c i + -1 = 0 then T.u - ((T.D i).length : Int) else T.u := by unfold Tb.drop; rw [hN]
    by_cases h0 : T.c i + -1 = 0
    · rw [if_pos h0] at hud
      obtain ⟨a, c, eh, _⟩ := hT.data i hi
      have hdl := hok.dl i
      have hub := hok.ub
      obtain ⟨W, hW⟩ : ∃ W, W = w1.setCell ⟨b i, 1, none⟩ (.int .i32 (T.c i + -1)) := ⟨_, rfl⟩
      have e0 : W.cell? ⟨b i, 0, none⟩ = some (.slice a (T.D i).length c) := by rw [hW, World.cell?_setCell_other _ ⟨b i, 1, none⟩ ⟨b i, 0, none⟩ _ (by simp), turned_cell ht1 hg0, eh]
      have e1 : W.cell? ⟨f, o + 1, none⟩ = some (.int .i64 T.u) := by rw [World.cell?_of_block (w := w) (a := ⟨f, o + 1, none⟩) (by rw [hW]; exact hbf2)]; exact hu
      have e2 : W.frozen? ⟨f, o + 1, none⟩ = false := by rw [World.frozen?_of_block (w := w) (a := ⟨f, o + 1, none⟩) (by rw [hW]; exact hbf2)]; exact hfz
      have hwr : IntKind.i64.wrap (T.u - ((T.D i).length : Int)) = T.u - ((T.D i).length : Int) := wrap64 (by omega)
      have HE : Hid (∀ v : World, v.heap = (W.setCell ⟨f, o + 1, none⟩ (.int .i64 (T.u - ((T.D i).length : Int)))).heap → v.os = w.os → v.tape = w.tape → v.output = w.output → TabM v K (some mb) n (T.drop s) F b h ∧ TFr f (some mb) F b w v ∧ v.heap[f]? = (w.setCell ⟨f, o + 1, none⟩ (.int .i64 (T.drop s).u)).heap[f]?) := by
        intro v hv ho ht hp
        have hM := unhide HM
        have hFr := unhide HF
        rw [← hW] at hM hFr
        refine ⟨hM.kept (fun q e => ?_) (fun j hj => ?_), ⟨ho, ht, hp, by rw [hv, size_set]; exact hFr.size, fun q h1 h2 h3 h4 => ?_⟩, ?_⟩
        · cases e; rw [hv]; exact set_other _ _ _ _ _ hmf
        · rw [hv]; exact set_other _ _ _ _ _ (hbf j hj)
        · rw [hv, set_other _ _ _ _ _ h2]; exact hFr.rest q h1 h2 h3 h4
        · rw [hv, hud]
          simp only [World.setCell, Array.getElem?_modify]
          rw [hW, hbf2]
      have ho : W.os = w.os := by rw [hW]; exact hgr.os
      have htp : W.tape = w.tape := by rw [hW]; exact hgr.tape
      have hop : W.output = w.output := by rw [hW]; exact hgr.output
      have HO := hide (And.intro ho (And.intro htp hop))
      rw [← hW] at HA
      clear hT hT1 ht1 hgr HM HF hW hbf2 hbf1 hbf ho htp hop hud eh hg1 hg0 hg1' hdl hub hcb hok hfi hN hi
      generalize (T.D i).length = N at *
      go_enter Tryz.func159, Tryz.ntmps159
      go_wp2_with fail
      refine (unhide HA).mono ?_
      rintro e w2 ⟨rfl, rfl⟩
      go_wp2_with fail
      go_region
      all_goals go_wp2_with fail
      all_goals go_end0
      all_goals exact ⟨rfl, unhide HE _ rfl (unhide HO).1 (unhide HO).2.1 (unhide HO).2.2⟩
    · rw [if_neg h0] at hud
      have HE : Hid (TabM (w1.setCell ⟨b i, 1, none⟩ (.int .i32 (T.c i + -1))) K (some mb) n (T.drop s) F b h ∧ TFr f (some mb) F b w (w1.setCell ⟨b i, 1, none⟩ (.int .i32 (T.c i + -1))) ∧ (w1.setCell ⟨b i, 1, none⟩ (.int .i32 (T.c i + -1))).heap[f]? = (w.setCell ⟨f, o + 1, none⟩ (.int .i64 (T.drop s).u)).heap[f]?) :=
        ⟨unhide HM, unhide HF, by rw [hbf2, hud, set_self hu]⟩
      clear hT hT1 ht1 hgr HM HF hbf2 hbf1 hbf hud hg1 hg0 hg1' hcb hok hfi hN hi
      go_enter Tryz.func159, Tryz.ntmps159
      go_wp2_with fail
      refine (unhide HA).mono ?_
      rintro e w2 ⟨rfl, rfl⟩
      go_wp2_with fail
      go_end0
      exact ⟨rfl, unhide HE⟩
end Go.Proofs.YtebcmicmklpflaaGreatDoor
/- A name that is laid over a file, in any table. -/
namespace Go.Proofs.YtebcmicmklpflaaGreatDoor
open Go.RowKit Go.Maps
set_option linter.unusedSimpArgs false
theorem store_set {V : World} {K : Nat → Option (List UInt8)} {mb n : Nat} {T : Tb} {F : Nat → Prop} {b : Nat → Nat} {h : Nat → Value} {s : ByteArray} {i : Nat} (hi : F i) (hs : s.size ≤ maxLen) (hn : n < maxLen)
    (ht : TabIs V (some mb) n (fun t => (T.N t).map b)) (hlive : ∀ s i, T.N s = some i → F i) (hinj : ∀ i j, F i → F j → b i = b j → i = j) (hdata : ∀ i, F i → DataIs K (h i) (T.D i))
    (hf : ∀ j, F j → V.heap[b j]? = some (.cells #[h j, .int .i32 (updN T.c i (T.c i + 1) j)] 129 (0, 0))) :
    ∃ w2, (Instr.mapUpdate 87 (.map (some mb)) (.string s) (.pointer (some ⟨b i, 0, none⟩))).run Tryz.prog V = .ok () w2 ∧ TabM w2 K (some mb) (n + 1) (T.set s i) F b h ∧ V.mapTurned w2 mb := by
  obtain ⟨w2, hr, hT2, ht2⟩ := tab_store ht hs hn (b i)
  refine ⟨w2, hr, ⟨?_, fun e => (by cases e), fun t j hj => ?_, fun j hj => ?_, hinj, hdata⟩, ht2⟩
  · show TabIs w2 (some mb) (n + 1) (fun t => (upd T.N s (some i) t).map b)
    rw [upd_map]
    exact hT2
  · have hj' : upd T.N s (some i) t = some j := hj
    unfold upd at hj'
    split at hj'
    · cases hj'; exact hi
    · exact hlive t j hj'
  · show _ = some (Obj.cells #[h j, .int .i32 (updN T.c i (T.c i + 1) j)] 129 (0, 0))
    rw [turned_block ht2 ((Array.getElem?_eq_some_iff.1 (hf j hj)).1) (fun e => ?_)]
    · exact hf j hj
    · obtain ⟨es, cl, hb⟩ := ht.block
      rw [← e, hf j hj] at hb
      cases hb
theorem cells_bump {w : World} {K : Nat → Option (List UInt8)} {m : Option Nat} {n : Nat} {T : Tb} {F : Nat → Prop} {b : Nat → Nat} {h : Nat → Value} (hT : TabM w K m n T F b h) {i : Nat} (hi : F i) :
    ∀ j, F j → (w.setCell ⟨b i, 1, none⟩ (.int .i32 (T.c i + 1))).heap[b j]? = some (.cells #[h j, .int .i32 (updN T.c i (T.c i + 1) j)] 129 (0, 0)) := fun j hj => by
  by_cases e : j = i
  · subst e
    rw [updN_same]
    exact set_file (hT.file j hj)
  · rw [updN_ne _ _ e, set_other _ _ _ _ _ (fun e2 => e (hT.inj j i hj hi e2)), hT.file j hj]
set_option maxRecDepth 20000 in
set_option maxHeartbeats 1000000 in
theorem lay_any (f o : Nat) (K : Nat → Option (List UInt8)) (m : Option Nat) (n k : Nat) (T : Tb) (F : Nat → Prop) (b : Nat → Nat) (h : Nat → Value) (s : ByteArray) (i : Nat) (w : World) (hc : w.cell? ⟨f, o, none⟩ = some (.map m)) (hu : w.cell? ⟨f, o + 1, none⟩ = some (.int .i64 T.u)) (hfz : ∀ j, w.frozen? ⟨f, j, none⟩ = false)
    (hT : TabM w K m n T F b h) (hok : T.Ok k) (hk : k ≤ 100000) (hs : s.size ≤ maxLen) (hn : n < maxLen) (hbf : ∀ i, F i → b i ≠ f) (hi : F i) :
    Calls Tryz.prog 112 #[.pointer (some ⟨f, o, none⟩), .string s, .pointer (some ⟨b i, 0, none⟩)] w fun e w' => e = .returned (.tuple #[]) ∧ ∃ mb, TabM w' K (some mb) (n + 1) (T.lay s i) F b h ∧ TFr f m F b w w' ∧ (m = some mb ∨ (m = none ∧ w.heap.size ≤ mb)) ∧ w'.heap[f]? = ((w.setCell ⟨f, o + 1, none⟩ (.int .i64 (T.lay s i).u)).setCell ⟨f, o, none⟩ (.map (some mb))).heap[f]? := by
  have HD := hide (drop_any f o K m n k T F b h s w hc hu (hfz (o + 1)) hT hok hk hs hbf)
  have hcb := (hok.drop s).cnt i
  have hq1 := eq_nil
  have hq2 := eq_some
  have hfl : f < w.heap.size := cellLt hc
  obtain ⟨ci, hci⟩ : ∃ ci, ci = (T.drop s).c i := ⟨_, rfl⟩
  have hlu : (T.lay s i).u = (T.drop s).u := rfl
  cases m with
  | some mb =>
    have HX : Hid (∀ w0, TabM w0 K (some mb) n (T.drop s) F b h → TFr f (some mb) F b w w0 → w0.heap[f]? = (w.setCell ⟨f, o + 1, none⟩ (.int .i64 (T.drop s).u)).heap[f]? →
        Calls Tryz.prog 157 #[.pointer (some ⟨b i, 1, none⟩), .int .i32 1] w0 (fun e w' => e = .returned (.int .i32 (ci + 1)) ∧ w' = w0.setCell ⟨b i, 1, none⟩ (.int .i32 (ci + 1))) ∧ (w0.setCell ⟨b i, 1, none⟩ (.int .i32 (ci + 1))).cell? ⟨f, o, none⟩ = some (.map (some mb)) ∧
        ∃ w2, (Instr.mapUpdate 87 (.map (some mb)) (.string s) (.pointer (some ⟨b i, 0, none⟩))).run Tryz.prog (w0.setCell ⟨b i, 1, none⟩ (.int .i32 (ci + 1))) = .ok () w2 ∧ Hid (∃ mb', TabM w2 K (some mb') (n + 1) (T.lay s i) F b h ∧ TFr f (some mb) F b w w2 ∧ (some mb = some mb' ∨ (some mb = none ∧ w.heap.size ≤ mb')) ∧ w2.heap[f]? = ((w.setCell ⟨f, o + 1, none⟩ (.int .i64 (T.lay s i).u)).setCell ⟨f, o, none⟩ (.map (some mb'))).heap[f]?)) := by
      intro w0 hM0 hF0 hB0
      have hg1 : w0.cell? ⟨b i, 1, none⟩ = some (.int .i32 ((T.drop s).c i)) := by simp [World.cell?, hM0.file i hi]
      have hgz : w0.frozen? ⟨b i, 1, none⟩ = false := by simp [World.frozen?, hM0.file i hi]
      have hmi := hM0.ne hi
      have hmf : mb ≠ f := fun e => by
        obtain ⟨es, cl, hb⟩ := hT.tab.block
        rw [e] at hb
        simp [World.cell?, hb] at hc
      rw [hci]
      obtain ⟨w2, hr2, hM2, ht2⟩ := store_set (V := w0.setCell ⟨b i, 1, none⟩ (.int .i32 ((T.drop s).c i + 1))) hi hs hn (hM0.tab.same fun q e => by cases e; exact set_other _ _ _ _ _ (fun e => hmi (by rw [e]))) hM0.live hM0.inj hM0.data (cells_bump hM0 hi)
      refine ⟨add32 ⟨b i, 1, none⟩ _ 1 _ w0 hg1 hgz (wrap32 (by omega) (by omega)), ?_, w2, hr2, mb, hM2, hF0.same ⟨?_, ?_, ?_, ?_, fun q h1 h2 h3 h4 => ?_⟩, .inl rfl, ?_⟩
      · rw [World.cell?_setCell_other _ ⟨b i, 1, none⟩ ⟨f, o, none⟩ _ (by simp [hbf i hi]), World.cell?_of_block (w := w.setCell ⟨f, o + 1, none⟩ (.int .i64 (T.drop s).u)) (a := ⟨f, o, none⟩) hB0, World.cell?_setCell_other _ ⟨f, o + 1, none⟩ ⟨f, o, none⟩ _ (by simp)]
        exact hc
      · exact ht2.grown.os
      · exact ht2.grown.tape
      · exact ht2.grown.output
      · have := ht2.grown.size; rw [size_set] at this; exact this
      · rw [turned_block ht2 (by rw [size_set]; exact h1) (fun e => h3 (by rw [e])), set_other _ _ _ _ _ (h4 i hi)]
      · rw [turned_block ht2 (by rw [size_set]; have := hF0.size; omega) (Ne.symm hmf), set_other _ _ _ _ _ (Ne.symm (hbf i hi)), hB0, hlu]
        rw [set_self (v := .map (some mb)) (o := o)]
        rw [World.cell?_setCell_other _ ⟨f, o + 1, none⟩ ⟨f, o, none⟩ _ (by simp)]
        exact hc
    clear hT hok hbf hlu hci hcb
    go_enter Tryz.func112, Tryz.ntmps112
    go_wp2_with fail
    refine (unhide HD).mono ?_
    rintro e w0 ⟨rfl, hM0, hF0, hB0⟩
    obtain ⟨HA, hcx, w2, hr2, HE⟩ := unhide HX w0 hM0 hF0 hB0
    have HA := hide HA
    clear hM0 hF0 hB0
    go_wp2_with fail
    refine (unhide HA).mono ?_
    rintro e w0' ⟨rfl, rfl⟩
    go_wp2_with fail
    go_end0
    exact ⟨rfl, unhide HE⟩
  | none =>
    obtain rfl : n = 0 := hT.nil rfl
    have HX : Hid (∀ w0, TabM w0 K none 0 (T.drop s) F b h → TFr f none F b w w0 → w0.heap[f]? = (w.setCell ⟨f, o + 1, none⟩ (.int .i64 (T.drop s).u)).heap[f]? →
        Calls Tryz.prog 157 #[.pointer (some ⟨b i, 1, none⟩), .int .i32 1] w0 (fun e w' => e = .returned (.int .i32 (ci + 1)) ∧ w' = w0.setCell ⟨b i, 1, none⟩ (.int .i32 (ci + 1))) ∧ (w0.setCell ⟨b i, 1, none⟩ (.int .i32 (ci + 1))).cell? ⟨f, o, none⟩ = some (.map none) ∧ (w0.setCell ⟨b i, 1, none⟩ (.int .i32 (ci + 1))).frozen? ⟨f, o, none⟩ = false ∧ f < w0.heap.size ∧
        ∃ w2, (Instr.mapUpdate 87 (.map (some w0.heap.size)) (.string s) (.pointer (some ⟨b i, 0, none⟩))).run Tryz.prog (((w0.setCell ⟨b i, 1, none⟩ (.int .i32 (ci + 1))).setCell ⟨f, o, none⟩ (.map (some w0.heap.size))).alloc (.map #[] 0)) = .ok () w2 ∧ Hid (∃ mb', TabM w2 K (some mb') (0 + 1) (T.lay s i) F b h ∧ TFr f none F b w w2 ∧ (none = some mb' ∨ ((none : Option Nat) = none ∧ w.heap.size ≤ mb')) ∧ w2.heap[f]? = ((w.setCell ⟨f, o + 1, none⟩ (.int .i64 (T.lay s i).u)).setCell ⟨f, o, none⟩ (.map (some mb'))).heap[f]?)) := by
      intro w0 hM0 hF0 hB0
      have hg1 : w0.cell? ⟨b i, 1, none⟩ = some (.int .i32 ((T.drop s).c i)) := by simp [World.cell?, hM0.file i hi]
      have hgz : w0.frozen? ⟨b i, 1, none⟩ = false := by simp [World.frozen?, hM0.file i hi]
      have hfl0 : f < w0.heap.size := Nat.lt_of_lt_of_le hfl hF0.size
      rw [hci]
      obtain ⟨V, hV⟩ : ∃ V, V = ((w0.setCell ⟨b i, 1, none⟩ (.int .i32 ((T.drop s).c i + 1))).setCell ⟨f, o, none⟩ (.map (some w0.heap.size))).alloc (.map #[] 0) := ⟨_, rfl⟩
      have hsV : V.heap.size = w0.heap.size + 1 := by rw [hV]; simp [World.setCell]
      have hVo : ∀ q, q < w0.heap.size → q ≠ f → V.heap[q]? = (w0.setCell ⟨b i, 1, none⟩ (.int .i32 ((T.drop s).c i + 1))).heap[q]? := fun q h1 h2 => by
        rw [hV, Below.heap_alloc _ _ _ (by simp [World.setCell]; exact h1), set_other _ _ _ _ _ h2]
      have hT2 : TabIs V (some w0.heap.size) 0 (fun t => ((T.drop s).N t).map b) := by
        have e : (fun t => ((T.drop s).N t).map b) = fun _ => none := funext fun t => hM0.tab t
        rw [e, hV]
        have hn0 := tab_new ((w0.setCell ⟨b i, 1, none⟩ (.int .i32 ((T.drop s).c i + 1))).setCell ⟨f, o, none⟩ (.map (some w0.heap.size)))
        rwa [show ((w0.setCell ⟨b i, 1, none⟩ (.int .i32 ((T.drop s).c i + 1))).setCell ⟨f, o, none⟩ (.map (some w0.heap.size))).heap.size = w0.heap.size from by simp [World.setCell]] at hn0
      obtain ⟨w2, hr2, hM2, ht2⟩ := store_set (V := V) hi hs hn hT2 hM0.live hM0.inj hM0.data (fun j hj => by
        rw [hVo (b j) ((Array.getElem?_eq_some_iff.1 (hM0.file j hj)).1) (hbf j hj)]
        exact cells_bump hM0 hi j hj)
      rw [← hV]
      refine ⟨add32 ⟨b i, 1, none⟩ _ 1 _ w0 hg1 hgz (wrap32 (by omega) (by omega)), ?_, ?_, hfl0, w2, hr2, w0.heap.size, hM2, hF0.same ⟨?_, ?_, ?_, ?_, fun q h1 h2 h3 h4 => ?_⟩, .inr ⟨rfl, hF0.size⟩, ?_⟩
      · rw [World.cell?_setCell_other _ ⟨b i, 1, none⟩ ⟨f, o, none⟩ _ (by simp [hbf i hi]), World.cell?_of_block (w := w.setCell ⟨f, o + 1, none⟩ (.int .i64 (T.drop s).u)) (a := ⟨f, o, none⟩) hB0, World.cell?_setCell_other _ ⟨f, o + 1, none⟩ ⟨f, o, none⟩ _ (by simp)]
        exact hc
      · rw [World.frozen?_setCell, World.frozen?_of_block (w := w.setCell ⟨f, o + 1, none⟩ (.int .i64 (T.drop s).u)) (a := ⟨f, o, none⟩) hB0, World.frozen?_setCell]
        exact hfz o
      · rw [ht2.grown.os, hV]; rfl
      · rw [ht2.grown.tape, hV]; rfl
      · rw [ht2.grown.output, hV]; rfl
      · have := ht2.grown.size; omega
      · rw [turned_block ht2 (by omega) (by omega), hVo q h1 h2, set_other _ _ _ _ _ (h4 i hi)]
      · rw [turned_block ht2 (by omega) (by omega), hV, Below.heap_alloc _ _ _ (by simp [World.setCell]; exact hfl0), hlu]
        simp only [World.setCell, Array.getElem?_modify]
        rw [if_neg (hbf i hi)]
        simp only [World.setCell, Array.getElem?_modify] at hB0
        rw [hB0]
    have hmk := fun w1 => run_makeMap (P := Tryz.prog) 87 w1
    clear hT hok hbf hlu hci hcb
    go_enter Tryz.func112, Tryz.ntmps112
    go_wp2_with fail
    refine (unhide HD).mono ?_
    rintro e w0 ⟨rfl, hM0, hF0, hB0⟩
    obtain ⟨HA, hcx, hzx, hf0, w2, hr2, HE⟩ := unhide HX w0 hM0 hF0 hB0
    have HA := hide HA
    clear hM0 hF0 hB0
    go_wp2_with fail
    refine (unhide HA).mono ?_
    rintro e w0' ⟨rfl, rfl⟩
    go_wp2_with fail
    go_end0
    exact ⟨rfl, unhide HE⟩
end Go.Proofs.YtebcmicmklpflaaGreatDoor
/- write, fill, and the things that Write, Append and Link do, to any table. -/
namespace Go.Proofs.YtebcmicmklpflaaGreatDoor
open Go.RowKit Go.Maps
set_option linter.unusedSimpArgs false
/-- One stamp more. -/
def addF (F : Nat → Prop) (i : Nat) : Nat → Prop := fun j => j = i ∨ F j
theorem DataIs.len {K : Nat → Option (List UInt8)} {v : Value} {d : List UInt8} (h : DataIs K v d) : ∃ a c, v = .slice a d.length c := by
  obtain ⟨a, c, e, _⟩ := h
  exact ⟨a, c, e⟩
theorem TabM.addFile {w : World} {K : Nat → Option (List UInt8)} {m : Option Nat} {n : Nat} {T : Tb} {F : Nat → Prop} {b : Nat → Nat} {h : Nat → Value} (hT : TabM w K m n T F b h) {i : Nat} (hi : ¬ F i) {d : List UInt8} {v : Value} (hv : DataIs K v d) {w1 : World}
    (h1 : ∀ q, q < w.heap.size → (m = some q ∨ ∃ j, F j ∧ q = b j) → w1.heap[q]? = w.heap[q]?) (h2 : w1.heap[w.heap.size]? = some (.cells #[v, .int .i32 0] 129 (0, 0))) :
    TabM w1 K m n (T.add d i) (addF F i) (updN b i w.heap.size) (updN h i v) := by
  have hlt : ∀ j, F j → b j < w.heap.size := fun j hj => (Array.getElem?_eq_some_iff.1 (hT.file j hj)).1
  have hni : ∀ j, F j → j ≠ i := fun j hj e => hi (e ▸ hj)
  refine ⟨?_, hT.nil, fun s j hj => .inr (hT.live s j hj), fun j hj => ?_, fun j k hj hk e => ?_, fun j hj => ?_⟩
  · have e : (fun s => ((T.add d i).N s).map (updN b i w.heap.size)) = fun s => (T.N s).map b := by
      funext s
      show (T.N s).map _ = _
      cases hs : T.N s with
      | none => rfl
      | some j => simp only [Option.map_some]; rw [updN_ne _ _ (hni j (hT.live s j hs))]
    rw [e]
    refine hT.tab.same fun q e => h1 q ?_ (.inl e)
    subst e
    obtain ⟨es, cl, hb⟩ := hT.tab.block
    exact (Array.getElem?_eq_some_iff.1 hb).1
  · show w1.heap[updN b i w.heap.size j]? = some (Obj.cells #[updN h i v j, .int .i32 (updN T.c i 0 j)] 129 (0, 0))
    by_cases e : j = i
    · subst e
      rw [updN_same, updN_same, updN_same, h2]
    · have hj' : F j := hj.resolve_left e
      rw [updN_ne _ _ e, updN_ne _ _ e, updN_ne _ _ e, h1 _ (hlt j hj') (.inr ⟨j, hj', rfl⟩), hT.file j hj']
  · by_cases ej : j = i
    · by_cases ek : k = i
      · rw [ej, ek]
      · rw [ej, updN_same, updN_ne _ _ ek] at e
        have := hlt k (hk.resolve_left ek)
        omega
    · by_cases ek : k = i
      · rw [ek, updN_same, updN_ne _ _ ej] at e
        have := hlt j (hj.resolve_left ej)
        omega
      · rw [updN_ne _ _ ej, updN_ne _ _ ek] at e
        exact hT.inj j k (hj.resolve_left ej) (hk.resolve_left ek) e
  · show DataIs K (updN h i v j) (updN T.D i d j)
    by_cases e : j = i
    · subst e; rw [updN_same, updN_same]; exact hv
    · rw [updN_ne _ _ e, updN_ne _ _ e]; exact hT.data j (hj.resolve_left e)
/-- What is left where a thing lays a name. -/
structure Done (f o : Nat) (m : Option Nat) (F : Nat → Prop) (b : Nat → Nat) (u : Int) (mb : Nat) (w w' : World) : Prop where
  fr : TFr f m F b w w'
  new : m = some mb ∨ (m = none ∧ w.heap.size ≤ mb)
  blk : w'.heap[f]? = ((w.setCell ⟨f, o + 1, none⟩ (.int .i64 u)).setCell ⟨f, o, none⟩ (.map (some mb))).heap[f]?
theorem two_sets {w w1 : World} {f o : Nat} {u0 u1 x : Value} (h : w1.heap[f]? = (w.setCell ⟨f, o + 1, none⟩ u0).heap[f]?) : ((w1.setCell ⟨f, o + 1, none⟩ u1).setCell ⟨f, o, none⟩ x).heap[f]? = ((w.setCell ⟨f, o + 1, none⟩ u1).setCell ⟨f, o, none⟩ x).heap[f]? := by
  simp only [World.setCell, Array.getElem?_modify] at h ⊢
  simp only [if_true] at h ⊢
  rw [h]
  cases w.heap[f]? with
  | none => rfl
  | some x => cases x <;> simp
set_option maxRecDepth 20000 in
set_option maxHeartbeats 1000000 in
theorem write_any (f o : Nat) (K : Nat → Option (List UInt8)) (m : Option Nat) (n k : Nat) (T : Tb) (F : Nat → Prop) (b : Nat → Nat) (h : Nat → Value) (s : ByteArray) (d : List UInt8) (v : Value) (i : Nat) (w : World) (hc : w.cell? ⟨f, o, none⟩ = some (.map m)) (hu : w.cell? ⟨f, o + 1, none⟩ = some (.int .i64 T.u)) (hfz : ∀ j, w.frozen? ⟨f, j, none⟩ = false)
    (hT : TabM w K m n T F b h) (hok : T.Ok k) (hk : k < 100000) (hs : s.size ≤ maxLen) (hn : n < maxLen) (hbf : ∀ i, F i → b i ≠ f) (hi : ¬ F i) (hv : DataIs K v d) (hd : d.length ≤ 1048576) :
    Calls Tryz.prog 71 #[.pointer (some ⟨f, o, none⟩), .string s, v] w fun e w' => e = .returned (.tuple #[]) ∧ ∃ mb, TabM w' K (some mb) (n + 1) (T.write s d i) (addF F i) (updN b i w.heap.size) (updN h i v) ∧ Done f o m F b (T.write s d i).u mb w w' := by
  obtain ⟨a, c, ev⟩ := hv.len
  have r1 := hfz (o + 1)
  have hfl : f < w.heap.size := cellLt hc
  have hub := hok.ub
  obtain ⟨w1, hw1⟩ : ∃ w1, w1 = (w.setCell ⟨f, o + 1, none⟩ (.int .i64 (T.u + (d.length : Int)))).alloc (.cells #[v, .int .i32 0] 129) := ⟨_, rfl⟩
  have hs1 : w1.heap.size = w.heap.size + 1 := by rw [hw1]; simp [World.setCell]
  have hold : ∀ q, q < w.heap.size → q ≠ f → w1.heap[q]? = w.heap[q]? := fun q h1 h2 => by rw [hw1, Below.heap_alloc _ _ _ (by simp [World.setCell]; exact h1), set_other _ _ _ _ _ h2]
  have hnew : w1.heap[w.heap.size]? = some (.cells #[v, .int .i32 0] 129 (0, 0)) := by
    rw [hw1]
    show ((w.setCell ⟨f, o + 1, none⟩ (.int .i64 (T.u + (d.length : Int)))).heap.push _)[w.heap.size]? = _
    rw [Array.getElem?_push, if_pos (by simp [World.setCell])]
  have hbw : w1.heap[f]? = (w.setCell ⟨f, o + 1, none⟩ (.int .i64 (T.u + (d.length : Int)))).heap[f]? := by rw [hw1, Below.heap_alloc _ _ _ (by simp [World.setCell]; exact hfl)]
  have hmf : m ≠ some f := fun e => by
    subst e
    obtain ⟨es, cl, hb⟩ := hT.tab.block
    simp [World.cell?, hb] at hc
  have hT1 := hT.addFile hi hv (w1 := w1) (fun q h1 h2 => hold q h1 (by
    rcases h2 with e | ⟨j, hj, e⟩
    · exact fun e2 => hmf (by rw [e, e2])
    · rw [e]; exact hbf j hj)) hnew
  have hlt : ∀ j, F j → b j < w.heap.size := fun j hj => (Array.getElem?_eq_some_iff.1 (hT.file j hj)).1
  have hni : ∀ j, F j → j ≠ i := fun j hj e => hi (e ▸ hj)
  have HL := hide (lay_any f o K m n (k + 1) (T.add d i) (addF F i) (updN b i w.heap.size) (updN h i v) s i w1
    (by rw [World.cell?_of_block (w := w.setCell ⟨f, o + 1, none⟩ (.int .i64 (T.u + (d.length : Int)))) (a := ⟨f, o, none⟩) hbw, World.cell?_setCell_other _ ⟨f, o + 1, none⟩ ⟨f, o, none⟩ _ (by simp)]; exact hc)
    (by rw [World.cell?_of_block (w := w.setCell ⟨f, o + 1, none⟩ (.int .i64 (T.u + (d.length : Int)))) (a := ⟨f, o + 1, none⟩) hbw]; exact World.cell?_setCell_same w ⟨f, o + 1, none⟩ _ hu)
    (fun j => by rw [World.frozen?_of_block (w := w.setCell ⟨f, o + 1, none⟩ (.int .i64 (T.u + (d.length : Int)))) (a := ⟨f, j, none⟩) hbw, World.frozen?_setCell]; exact hfz j)
    hT1 (hok.add d i hd) (by omega) hs hn (fun j hj => by
      by_cases e : j = i
      · rw [e, updN_same]; omega
      · rw [updN_ne _ _ e]; exact hbf j (hj.resolve_left e)) (.inl rfl))
  rw [updN_same] at HL
  have HE : Hid (∀ w' mb, TabM w' K (some mb) (n + 1) (T.write s d i) (addF F i) (updN b i w.heap.size) (updN h i v) → TFr f m (addF F i) (updN b i w.heap.size) w1 w' → (m = some mb ∨ (m = none ∧ w1.heap.size ≤ mb)) →
      w'.heap[f]? = ((w1.setCell ⟨f, o + 1, none⟩ (.int .i64 (T.write s d i).u)).setCell ⟨f, o, none⟩ (.map (some mb))).heap[f]? → Done f o m F b (T.write s d i).u mb w w') := by
    intro w' mb _ hF hm hb
    refine ⟨?_, hm.imp id (fun e => ⟨e.1, by omega⟩), hb.trans (two_sets hbw)⟩
    have h0 : TFr f m F b w w1 := ⟨by rw [hw1]; rfl, by rw [hw1]; rfl, by rw [hw1]; rfl, by omega, fun q h1 h2 _ _ => hold q h1 h2⟩
    refine h0.trans hF (fun q e => .inl e) (fun j hj => ?_)
    by_cases e : j = i
    · rw [e, updN_same]; exact .inr (Nat.le_refl _)
    · rw [updN_ne _ _ e]; exact .inl ⟨hj.resolve_left e, rfl⟩
  have hwr : IntKind.i64.wrap (T.u + (d.length : Int)) = T.u + (d.length : Int) := wrap64 (by omega)
  rw [hw1] at HL HE
  clear hT hT1 hold hnew hbw hw1 hs1 hlt hni hub hv hbf hok
  subst ev
  generalize d.length = D at *
  go_enter Tryz.func71, Tryz.ntmps71
  go_wp2_with fail
  refine (unhide HL).mono ?_
  rintro e w2 ⟨rfl, mb, hM, hF, hm, hb⟩
  have HR := hide (And.intro hM (unhide HE w2 mb hM hF hm hb))
  clear hM hF hm hb HE HL
  go_wp2_with fail
  go_end0
  exact ⟨rfl, mb, unhide HR⟩
set_option maxRecDepth 20000 in
set_option maxHeartbeats 1000000 in
theorem do_write_any (f o pn pd : Nat) (K : Nat → Option (List UInt8)) (m : Option Nat) (n k : Nat) (T : Tb) (F : Nat → Prop) (b : Nat → Nat) (h : Nat → Value) (s : ByteArray) (d : List UInt8) (v : Value) (i : Nat) (w : World) (hc : w.cell? ⟨f, o, none⟩ = some (.map m)) (hu : w.cell? ⟨f, o + 1, none⟩ = some (.int .i64 T.u)) (hfz : ∀ j, w.frozen? ⟨f, j, none⟩ = false)
    (hT : TabM w K m n T F b h) (hok : T.Ok k) (hk : k < 100000) (hs : s.size ≤ maxLen) (hn : n < maxLen) (hbf : ∀ i, F i → b i ≠ f) (hi : ¬ F i) (hv : DataIs K v d) (hd : d.length ≤ 1048576) (h1 : w.cell? ⟨pn, 0, none⟩ = some (.string s)) (h2 : w.cell? ⟨pd, 0, none⟩ = some v) :
    Calls Tryz.prog 70 #[.pointer (some ⟨f, o, none⟩), .pointer (some ⟨pn, 0, none⟩), .pointer (some ⟨pd, 0, none⟩)] w fun e w' => e = .returned (.tuple #[]) ∧ ∃ mb, TabM w' K (some mb) (n + 1) (T.write s d i) (addF F i) (updN b i w.heap.size) (updN h i v) ∧ Done f o m F b (T.write s d i).u mb w w' := by
  have HW := hide (write_any f o K m n k T F b h s d v i w hc hu hfz hT hok hk hs hn hbf hi hv hd)
  obtain ⟨a, c, ev⟩ := hv.len
  clear hT hfz hok hbf hv
  subst ev
  generalize d.length = D at *
  go_enter Tryz.func70, Tryz.ntmps70
  go_wp2_with fail
  refine (unhide HW).mono ?_
  rintro e w2 ⟨rfl, hE⟩
  have HE := hide hE
  clear hE
  go_wp2_with fail
  go_end0
  exact ⟨rfl, unhide HE⟩
end Go.Proofs.YtebcmicmklpflaaGreatDoor
/- fill, move, and the things that Append, Link, Rename and Remove do, to any table. -/
namespace Go.Proofs.YtebcmicmklpflaaGreatDoor
open Go.RowKit Go.Maps
set_option linter.unusedSimpArgs false
/-- What is left where a thing lays no name. -/
structure Kept (f o : Nat) (m : Option Nat) (F : Nat → Prop) (b : Nat → Nat) (u : Int) (w w' : World) : Prop where
  fr : TFr f m F b w w'
  blk : w'.heap[f]? = (w.setCell ⟨f, o + 1, none⟩ (.int .i64 u)).heap[f]?
theorem TabM.putFile {w : World} {K : Nat → Option (List UInt8)} {m : Option Nat} {n : Nat} {T : Tb} {F : Nat → Prop} {b : Nat → Nat} {h : Nat → Value} (hT : TabM w K m n T F b h) {i : Nat} (hi : F i) {d : List UInt8} {v : Value} (hv : DataIs K v d) {w1 : World}
    (h1 : ∀ q, (m = some q ∨ ∃ j, F j ∧ j ≠ i ∧ q = b j) → w1.heap[q]? = w.heap[q]?) (h2 : w1.heap[b i]? = some (.cells #[v, .int .i32 (T.c i)] 129 (0, 0))) :
    TabM w1 K m n (T.put i d) F b (updN h i v) := by
  refine ⟨hT.tab.same fun q e => h1 q (.inl e), hT.nil, hT.live, fun j hj => ?_, hT.inj, fun j hj => ?_⟩
  · show w1.heap[b j]? = some (Obj.cells #[updN h i v j, .int .i32 (T.c j)] 129 (0, 0))
    by_cases e : j = i
    · subst e; rw [updN_same, h2]
    · rw [updN_ne _ _ e, h1 _ (.inr ⟨j, hj, e, rfl⟩), hT.file j hj]
  · show DataIs K (updN h i v j) (updN T.D i d j)
    by_cases e : j = i
    · subst e; rw [updN_same, updN_same]; exact hv
    · rw [updN_ne _ _ e, updN_ne _ _ e]; exact hT.data j hj
set_option maxRecDepth 20000 in
set_option maxHeartbeats 1000000 in
theorem fill_tab (f o : Nat) (K : Nat → Option (List UInt8)) (m : Option Nat) (n k : Nat) (T : Tb) (F : Nat → Prop) (b : Nat → Nat) (h : Nat → Value) (s : ByteArray) (d : List UInt8) (v : Value) (i : Nat) (w : World) (hc : w.cell? ⟨f, o, none⟩ = some (.map m)) (hu : w.cell? ⟨f, o + 1, none⟩ = some (.int .i64 T.u)) (hfz : ∀ j, w.frozen? ⟨f, j, none⟩ = false)
    (hT : TabM w K m n T F b h) (hok : T.Ok k) (hk : k < 100000) (hs : s.size ≤ maxLen) (hbf : ∀ i, F i → b i ≠ f) (hN : T.N s = some i) (hv : DataIs K v d) (hd : d.length ≤ 1048576) :
    Calls Tryz.prog 194 #[.pointer (some ⟨f, o, none⟩), .string s, v] w fun e w' => e = .returned (.tuple #[]) ∧ TabM w' K m n (T.put i d) F b (updN h i v) ∧ Kept f o m F b (T.put i d).u w w' := by
  have hi := hT.live s i hN
  obtain ⟨a, c, ev⟩ := hv.len
  obtain ⟨a0, c0, eh⟩ := (hT.data i hi).len
  have hfi := hT.file i hi
  have hg0 : w.cell? ⟨b i, 0, none⟩ = some (.slice a0 (T.D i).length c0) := by simp [World.cell?, hfi, eh]
  have hgz : w.frozen? ⟨b i, 0, none⟩ = false := by simp [World.frozen?, hfi]
  have hl := tab_look hT.tab hs
  simp only [hN, Option.map_some] at hl
  unfold ptr at hl
  have hub := hok.ub
  have hdl := hok.dl i
  have r1 := hfz (o + 1)
  have hmf : m ≠ some f := fun e => by
    subst e
    obtain ⟨es, cl, hb⟩ := hT.tab.block
    simp [World.cell?, hb] at hc
  have HE : Hid (∀ w' : World, w'.heap = ((w.setCell ⟨f, o + 1, none⟩ (.int .i64 (T.u + ((d.length : Int) - ((T.D i).length : Int))))).setCell ⟨b i, 0, none⟩ v).heap → w'.os = w.os → w'.tape = w.tape → w'.output = w.output → TabM w' K m n (T.put i d) F b (updN h i v) ∧ Kept f o m F b (T.put i d).u w w') := by
    intro w' hw ho ht hp
    have hfb := hbf i hi
    refine ⟨hT.putFile hi hv (fun q hq => ?_) ?_, ⟨ho, ht, hp, by rw [hw, size_set, size_set]; exact Nat.le_refl _, fun q h1 h2 h3 h4 => ?_⟩, ?_⟩
    · rw [hw]
      rcases hq with e | ⟨j, hj, hne, e⟩
      · rw [set_other _ _ _ _ _ (fun e2 => hT.ne hi (by rw [e, e2])), set_other _ _ _ _ _ (fun e2 => hmf (by rw [e, e2]))]
      · rw [e, set_other _ _ _ _ _ (fun e2 => hne (hT.inj j i hj hi e2)), set_other _ _ _ _ _ (hbf j hj)]
    · rw [hw]
      exact set_file0 (y := .int .i32 (T.c i)) (x := h i) (by rw [set_other _ _ _ _ _ hfb]; exact hfi)
    · rw [hw, set_other _ _ _ _ _ (h4 i hi), set_other _ _ _ _ _ h2]
    · rw [hw, set_other _ _ _ _ _ (Ne.symm hfb)]; rfl
  have hw1 : IntKind.i64.wrap ((d.length : Int) - ((T.D i).length : Int)) = (d.length : Int) - ((T.D i).length : Int) := wrap64 (by omega)
  have hw2 : IntKind.i64.wrap (T.u + ((d.length : Int) - ((T.D i).length : Int))) = T.u + ((d.length : Int) - ((T.D i).length : Int)) := wrap64 (by omega)
  clear hT hok hbf hv hub hdl hfi eh hN hi
  subst ev
  generalize d.length = D at *
  generalize (T.D i).length = D0 at *
  go_enter Tryz.func194, Tryz.ntmps194
  go_wp2_with fail
  go_region
  all_goals go_wp2_with fail
  all_goals go_end0
  all_goals exact ⟨rfl, unhide HE _ rfl rfl rfl rfl⟩
set_option maxRecDepth 20000 in
set_option maxHeartbeats 1000000 in
theorem do_fill_any (f o pn pd : Nat) (K : Nat → Option (List UInt8)) (m : Option Nat) (n k : Nat) (T : Tb) (F : Nat → Prop) (b : Nat → Nat) (h : Nat → Value) (s : ByteArray) (d : List UInt8) (v : Value) (i : Nat) (w : World) (hc : w.cell? ⟨f, o, none⟩ = some (.map m)) (hu : w.cell? ⟨f, o + 1, none⟩ = some (.int .i64 T.u)) (hfz : ∀ j, w.frozen? ⟨f, j, none⟩ = false)
    (hT : TabM w K m n T F b h) (hok : T.Ok k) (hk : k < 100000) (hs : s.size ≤ maxLen) (hbf : ∀ i, F i → b i ≠ f) (hN : T.N s = some i) (hv : DataIs K v d) (hd : d.length ≤ 1048576) (h1 : w.cell? ⟨pn, 0, none⟩ = some (.string s)) (h2 : w.cell? ⟨pd, 0, none⟩ = some v) :
    Calls Tryz.prog 193 #[.pointer (some ⟨f, o, none⟩), .pointer (some ⟨pn, 0, none⟩), .pointer (some ⟨pd, 0, none⟩)] w fun e w' => e = .returned (.tuple #[]) ∧ TabM w' K m n (T.put i d) F b (updN h i v) ∧ Kept f o m F b (T.put i d).u w w' := by
  have HW := hide (fill_tab f o K m n k T F b h s d v i w hc hu hfz hT hok hk hs hbf hN hv hd)
  obtain ⟨a, c, ev⟩ := hv.len
  clear hT hfz hok hbf hv hN
  subst ev
  generalize d.length = D at *
  go_enter Tryz.func193, Tryz.ntmps193
  go_wp2_with fail
  refine (unhide HW).mono ?_
  rintro e w2 ⟨rfl, hE⟩
  have HE := hide hE
  clear hE
  go_wp2_with fail
  go_end0
  exact ⟨rfl, unhide HE⟩
theorem TFr.of_drew {f : Nat} {m : Option Nat} {F : Nat → Prop} {b : Nat → Nat} {w w' : World} (h : TFr f m F b w.drew w') : TFr f m F b w w' := ⟨h.os, h.tape, h.output, h.size, h.rest⟩
end Go.Proofs.YtebcmicmklpflaaGreatDoor
