/- strings.Clone and bytes.Clone: the same bytes in memory of their own. -/
import Derived.Shelf.LaysM
import Derived.Shelf.Strconv.Clone
import Derived.Test.YtbnbakcoomjnaaaFwr
import Derived.Below
import Derived.Laws.AppendOwn
import Derived.Deep.AppendSrc
namespace Go.Proofs.Ytbnbakcoomjnaaa
open Go.Shelf Go.RowKit
def laysClone_ren : Go.Shelf.Ren := ⟨fun | 316 => 71 | n => n, fun | 9 => 9 | 3 => 3 | 4 => 4 | 37 => 22 | 0 => 0 | 127 => 122 | 5 => 5 | n => n, fun | n => n⟩
theorem laysClone : Go.Proofs.LaysM.n316 Try.prog laysClone_ren := {
  mixed := by kernel_rfl
  f316 := Try.func71.trans (congrArg some (by kernel_rfl))
  t0 := Try.underlying0
  a0 := Try.isAgg0
  z0 := Try.sizeOf0
  v0 := Try.zeroValue0
  t3 := Try.underlying3
  a3 := Try.isAgg3
  z3 := Try.sizeOf3
  v3 := Try.zeroValue3
  t4 := Try.underlying4
  a4 := Try.isAgg4
  z4 := Try.sizeOf4
  v4 := Try.zeroValue4
  t9 := Try.underlying9
  a9 := Try.isAgg9
  z9 := Try.sizeOf9
  v9 := Try.zeroValue9
  t37 := Try.underlying22
  a37 := Try.isAgg22
  z37 := Try.sizeOf22
  v37 := Try.zeroValue22
  t127 := Try.underlying122
  a127 := Try.isAgg122
  z127 := Try.sizeOf122
  v127 := Try.zeroValue122
  t5 := Try.underlying5
  a5 := Try.isAgg5
  z5 := Try.sizeOf5
  v5 := Try.zeroValue5
  i0 := by kernel_rfl
  i3 := by kernel_rfl
  i4 := by kernel_rfl
  i5 := by kernel_rfl
  i9 := by kernel_rfl
  i37 := by kernel_rfl
  i127 := by kernel_rfl }
theorem clone_in (s : ByteArray) (w : World) (hlim : s.size ≤ 281474976710656) :
    Calls Try.prog 71 #[.string s] w fun e w' => e = .returned (.string s) ∧ Below w.heap.size w w' := Any.stringslite_Clone laysClone s w hlim
set_option maxHeartbeats 400000 in
theorem clone_any (s : ByteArray) (w : World) (hlim : s.size ≤ 281474976710656) :
    Calls Try.prog 32 #[.string s] w fun e w' => e = .returned (.string s) ∧ Below w.heap.size w w' := by
  go_enter Try.func32, Try.ntmps32
  go_wp2_with (go_at_call 71; refine (clone_in s _ hlim).mono ?_; rintro e w' ⟨rfl, hb⟩)
  go_ret
  exact ⟨rfl, hb⟩
/-- Bytes as cells. -/
def byteVals (d : List UInt8) : List Value := d.map fun b => .int .u8 (b.toNat : Int)
/-- A slice whose bytes are known, in blocks below a bound. -/
def Row (hi : Nat) (w : World) (v : Value) (d : List UInt8) : Prop :=
  ∃ a c, v = .slice a d.length c ∧ d.length ≤ c ∧ (0 < d.length → ∃ g o, a = some ⟨g, o, none⟩ ∧ g < hi ∧ ∀ j u, (byteVals d)[j]? = some u → w.cell? ⟨g, o + j, none⟩ = some u)
def app22 (ty : TypeId) (args : Array Value) : Sem Value := Builtin.append_ #[22, 22] ty args
@[go_sem ↓] theorem append_app22 (ty : TypeId) (args : Array Value) : Builtin.append_ #[22, 22] ty args = app22 ty args := rfl
theorem info5 : ∃ i, Try.prog.info? 5 = some i ∧ i.zero = some (.int .u8 0) ∧ i.size = 1 ∧ i.bytes = 1 := by
  have h : (Try.prog.info? 5).map (fun i => (i.zero, i.size, i.bytes)) = some (some (.int .u8 0), 1, 1) := by kernel_rfl
  cases hq : Try.prog.info? 5 with
  | none => simp [hq] at h
  | some i => simp [hq] at h; exact ⟨i, rfl, h.1, h.2.1, h.2.2⟩
theorem owns_new (w : World) (e : TypeId) (size : Nat) : (w.alloc (.cells #[] e)).ownsRow w.heap.size e size (.slice (some ⟨w.heap.size, 0, none⟩) 0 0) 0 [] :=
  ⟨by simp, .inr ⟨w.heap.size, 0, #[], rfl, Nat.le_refl _, by show (w.heap.push _)[w.heap.size]? = _; rw [Array.getElem?_push, if_pos rfl], Nat.le_refl _, Nat.zero_le _, by simp, by simp⟩⟩
set_option maxRecDepth 20000 in
set_option maxHeartbeats 1000000 in
theorem bclone_any (hi : Nat) (a : Option Addr) (n c : Nat) (d : List UInt8) (w : World) (h : Row hi w (.slice a n c) d) (hn : d.length = n) (hhi : hi ≤ w.heap.size) (hmax : n ≤ 1000000000) :
    Calls Try.prog 33 #[.slice a n c] w fun e w' => ∃ v, e = .returned v ∧ Row w'.heap.size w' v d ∧ Below w.heap.size w w' := by
  have hq := fun w => Lib.run_eql_slice_nil (P := Try.prog) w 22 5 a n c 0 0 Try.underlying22
  cases a with
  | none =>
    have hn0 : d = [] := by
      obtain ⟨a', c', e, _, hx⟩ := h
      cases d with
      | nil => rfl
      | cons b r =>
        injection e with e1
        obtain ⟨g, o, ea, _⟩ := hx (by simp)
        rw [ea] at e1; cases e1
    subst hn0
    have HE : Hid (Row w.heap.size w (.slice none 0 0) []) := ⟨none, 0, rfl, Nat.le_refl _, fun h => by simp at h⟩
    clear h
    go_enter Try.func33, Try.ntmps33
    go_wp2_with fail
    go_ret
    exact ⟨_, rfl, unhide HE, Below.refl _ _⟩
  | some b =>
    obtain ⟨i, hi', hz, hsz, hby⟩ := info5
    have hA : Below w.heap.size w (w.alloc (.cells #[] 5)) := (Below.refl _ _).alloc (Nat.le_refl _) _
    obtain ⟨v', w', hr, hown, hgr, -⟩ := run_append_own (P := Try.prog) (w.alloc (.cells #[] 5)) w.heap.size 22 22 5 i (.int .u8 0) 1 1 Try.underlying22 hi' hz hsz hby rfl (by omega) (.slice (some ⟨w.heap.size, 0, none⟩) 0 0) 0 [] (owns_new w 5 1) b n c (byteVals d) (by simp [byteVals, hn])
      (fun j u hj => by
        obtain ⟨a', c', e, _, hx⟩ := h
        injection e with e1
        have hd : 0 < d.length := by have := (List.getElem?_eq_some_iff.1 hj).1; simp [byteVals] at this; omega
        obtain ⟨g, o, ea, hg, hcell⟩ := hx hd
        rw [ea] at e1
        injection e1 with e1
        subst e1
        rw [show (⟨g, o, none⟩ : Addr).add j = ⟨g, o + j, none⟩ from by unfold Addr.add; split <;> simp_all, hA.cell (p := ⟨g, o + j, none⟩) (by show g < _; omega)]
        exact hcell j u hj)
      (fun u hu => by obtain ⟨b, -, rfl⟩ := List.mem_map.1 hu; rfl) (by simp only [maxLen]; omega) (by omega) (by simp)
    rw [List.nil_append, Nat.zero_add] at hown
    have HE : Hid (Row w'.heap.size w' v' d ∧ Below w.heap.size w w') := by
      refine ⟨?_, hA.grown hgr (by simp) (fun k hk => by simp [Value.ownBlock] at hk; omega)⟩
      rcases hown.2 with ⟨e, h0⟩ | ⟨g, cap, cur, e, hg, hh, hcap, hm, hszc, ht⟩
      · exact ⟨none, 0, by rw [e, hn, h0], by omega, fun h => by omega⟩
      · refine ⟨_, cap, by rw [e, hn], by omega, fun _ => ⟨g, 0, rfl, (Array.getElem?_eq_some_iff.1 hh).1, fun j u hj => ?_⟩⟩
        simp only [World.cell?, hh, Nat.zero_add]
        rw [← ht] at hj
        have hj2 := (List.getElem?_eq_some_iff.1 hj).1
        rw [List.length_take] at hj2
        rw [List.getElem?_take_of_lt (by omega)] at hj
        simpa using hj
    have hr' : ∀ ty, (app22 ty #[.slice (some ⟨w.heap.size, 0, none⟩) 0 0, .slice (some b) n c]).run Try.prog (w.alloc (.cells #[] 5)) = .ok v' w' := fun _ => hr
    clear h hown hgr hr hA
    go_enter Try.func33, Try.ntmps33
    go_wp2_with fail
    go_ret
    exact ⟨_, rfl, unhide HE⟩
end Go.Proofs.Ytbnbakcoomjnaaa
