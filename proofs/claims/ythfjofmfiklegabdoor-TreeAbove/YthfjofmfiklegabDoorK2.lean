import Derived.Test.YthfjofmfiklegabDoorK1
import Derived.Lib.AppendZerosOnto
import Derived.Deep.RegionLaw
import Derived.OwnWalk
import Derived.RangeFuncNested
import Derived.RangeFuncBound
import Derived.RangeFuncCalls
import Derived.RangeFuncLeaves
import Derived.Shelf.Abstract
import Derived.Shelf.RegionOpen
import Derived.WalkKit
import Derived.OwnWalkIn
import Derived.TacticsInMore
import Derived.LoopNIn
import Derived.LoopIn
/- Check, in the document's own answer. -/
namespace Go.Proofs.YthfjofmfiklegabDoor
open Go.RowKit
theorem loc_one {x : Bool} {d nk : Nat} {ns : List ByteArray} : locErr 1 x d ns nk = if 0 < ns.length ∨ 0 < nk then 3 else if 1048576 < d then 5 else 0 := by unfold locErr; rw [if_pos rfl]
theorem loc_three {x : Bool} {d nk : Nat} {ns : List ByteArray} : locErr 3 x d ns nk = if 0 < ns.length ∨ 0 < nk ∨ x = true then 3 else if 1000 < d then 5 else if d = 0 then 3 else 0 := by unfold locErr; rw [if_neg (by omega), if_pos rfl]
theorem loc_two_no {x : Bool} {d nk : Nat} {ns : List ByteArray} (h : x = true ∨ 0 < d ∨ ns.length ≠ nk) : locErr 2 x d ns nk = 3 := by unfold locErr; rw [if_neg (by omega), if_neg (by omega), if_pos rfl, if_pos h]
theorem loc_else {k : Int} {x : Bool} {d nk : Nat} {ns : List ByteArray} (h1 : k ≠ 1) (h2 : k ≠ 2) (h3 : k ≠ 3) : locErr k x d ns nk = 3 := by unfold locErr; rw [if_neg h1, if_neg h3, if_neg h2]
/-- What is no directory has no kids that are asked. -/
theorem chk_flat {k : Int} {x : Bool} {d : ByteArray} {ns : List ByteArray} {ks : List Tr} {deep n : Nat} (hk : k ≠ 2) (hb : ¬ (65536 < n + 1 ∨ 64 < deep)) : chk (.mk k x d ns ks) deep n = (locErr k x d.size ns ks.length, n + 1) := by
  rw [chk, if_neg hb]
  split
  · rename_i h0
    have hz : ks.length = 0 := by
      unfold locErr at h0
      split at h0
      · split at h0
        · omega
        · omega
      · split at h0
        · split at h0
          · omega
          · omega
        · omega
    obtain rfl : ks = [] := List.eq_nil_of_length_eq_zero hz
    rw [chks, h0]
  · rfl
end Go.Proofs.YthfjofmfiklegabDoor
/- Check, in the document's own answer: a directory that is none, or empty. -/
namespace Go.Proofs.YthfjofmfiklegabDoor
open Go.RowKit
end Go.Proofs.YthfjofmfiklegabDoor
/- Check, in the document's own answer: a directory and all below. -/
namespace Go.Proofs.YthfjofmfiklegabDoor
open Go.RowKit
end Go.Proofs.YthfjofmfiklegabDoor
/- Check, in the code and in the document's own answer: one and the same. -/
namespace Go.Proofs.YthfjofmfiklegabDoor
open Go.RowKit
theorem Lies.form {lo hi : Nat} {w : World} {T : Tr} {cs : List Value} (h : Lies lo hi w T cs) : ∃ k x a1 n1 c1 a2 n2 c2 a3 n3 c3, cs = [.int .i64 k, .bool x, .slice a1 n1 c1, .slice a2 n2 c2, .slice a3 n3 c3] := by
  cases h with
  | mk k x d ns ks vd vn vk Ks hl hd hn hk hK =>
    obtain ⟨a1, c1, rfl, _⟩ := hd.slice
    obtain ⟨a2, c2, rfl, _⟩ := hn.slice
    obtain ⟨a3, c3, rfl, _⟩ := hk.slice
    exact ⟨k, x, a1, _, c1, a2, _, c2, a3, _, c3, rfl⟩
set_option maxRecDepth 20000 in
set_option maxHeartbeats 1000000 in
theorem check_any (T : Tr) (lo hi : Nat) (cs : List Value) (w : World) (hL : Lies lo hi w T cs) (hW : wt T ≤ 100000) (hhi : hi ≤ w.heap.size) :
    Calls Tryd.prog 10 #[.agg cs.toArray] w fun e w' => e = .returned (.int .i64 (((chk T 1 0).1 : Nat) : Int)) ∧ Below w.heap.size w w' := by
  obtain ⟨k, x, a1, n1, c1, a2, n2, c2, a3, n3, c3, rfl⟩ := hL.form
  have hb0 : Below w.heap.size w ((w.alloc (.cells #[.int .i64 k, .bool x, .slice a1 n1 c1, .slice a2 n2 c2, .slice a3 n3 c3] 26)).alloc (.cells #[.int .i64 0] 3)) := ((Below.refl _ _).alloc (Nat.le_refl _) _).alloc (by simp) _
  have hC0 : Ctr ((w.alloc (.cells #[.int .i64 k, .bool x, .slice a1 n1 c1, .slice a2 n2 c2, .slice a3 n3 c3] 26)).alloc (.cells #[.int .i64 0] 3)) (w.heap.size + 1) (.int .i64 ((0 : Nat) : Int)) := ⟨by simp [go_sem], by simp [go_sem]⟩
  have HI := hide (chkC_any T lo hi _ _ (w.heap.size + 1) 1 0 (hL.kept hb0 hhi) hW hC0 (by omega) (by omega) (by omega))
  clear hL hC0
  obtain ⟨E, M, hEM⟩ : ∃ E M, chk T 1 0 = (E, M) := ⟨_, _, rfl⟩
  rw [hEM] at HI ⊢
  clear hEM
  go_enter Tryd.func10, Tryd.ntmps10
  go_wp2_with fail
  refine (unhide HI).mono ?_
  rintro e w1 ⟨rfl, hS, _⟩
  have hbl : Below w.heap.size w w1 := hb0.trans (hS.below (by omega) (by simp; omega))
  go_wp2_with fail
  go_ret
  exact ⟨rfl, hbl⟩
end Go.Proofs.YthfjofmfiklegabDoor
/- Rows appended to rows of the call's own. -/
namespace Go.Proofs.YthfjofmfiklegabDoor
open Go.RowKit
def app22 (ty : TypeId) (args : Array Value) : Sem Value := Builtin.append_ #[22, 22] ty args
@[go_sem ↓] theorem append_app22 (ty : TypeId) (args : Array Value) : Builtin.append_ #[22, 22] ty args = app22 ty args := rfl
def app23 (ty : TypeId) (args : Array Value) : Sem Value := Builtin.append_ #[23, 23] ty args
@[go_sem ↓] theorem append_app23 (ty : TypeId) (args : Array Value) : Builtin.append_ #[23, 23] ty args = app23 ty args := rfl
def app24 (ty : TypeId) (args : Array Value) : Sem Value := Builtin.append_ #[24, 24] ty args
@[go_sem ↓] theorem append_app24 (ty : TypeId) (args : Array Value) : Builtin.append_ #[24, 24] ty args = app24 ty args := rfl
theorem info_at (e : TypeId) (z : Value) (size bytes : Nat) (h : (Tryd.prog.info? e).map (fun i => (i.zero, i.size, i.bytes)) = some (some z, size, bytes)) : ∃ i, Tryd.prog.info? e = some i ∧ i.zero = some z ∧ i.size = size ∧ i.bytes = bytes := by
  cases hq : Tryd.prog.info? e with
  | none => simp [hq] at h
  | some i => simp [hq] at h; exact ⟨i, rfl, h.1, h.2.1, h.2.2⟩
theorem info5 : ∃ i, Tryd.prog.info? 5 = some i ∧ i.zero = some (.int .u8 0) ∧ i.size = 1 ∧ i.bytes = 1 := info_at _ _ _ _ (by kernel_rfl)
theorem info9 : ∃ i, Tryd.prog.info? 9 = some i ∧ i.zero = some (.string ⟨#[]⟩) ∧ i.size = 1 ∧ i.bytes = 16 := info_at _ _ _ _ (by kernel_rfl)
theorem info26 : ∃ i, Tryd.prog.info? 26 = some i ∧ i.zero = some (.agg #[.int .i64 0, .bool false, .slice none 0 0, .slice none 0 0, .slice none 0 0]) ∧ i.size = 5 ∧ i.bytes = 88 := info_at _ _ _ _ (by kernel_rfl)
/-- Whatever has turned besides, the call's own row stands. -/
theorem owns_same {w w' : World} {base base' : Nat} {e : TypeId} {size : Nat} {v : Value} {n : Nat} {xs : List Value} (h : w.ownsRow base e size v n xs) (hs : ∀ g, v.ownBlock = some g → w'.heap[g]? = w.heap[g]?) (hb : ∀ g, v.ownBlock = some g → base ≤ g → base' ≤ g) : w'.ownsRow base' e size v n xs := by
  refine ⟨h.1, ?_⟩
  rcases h.2 with h2 | ⟨g, cap, cur, rfl, hg, hh, r⟩
  · exact .inl h2
  · exact .inr ⟨g, cap, cur, rfl, hb g rfl hg, by rw [hs g rfl]; exact hh, r⟩
theorem addr_mid (g o j : Nat) : (⟨g, o, none⟩ : Addr).add j = ⟨g, o + j, none⟩ := by unfold Addr.add; split <;> simp_all
theorem Row.src {lo hi : Nat} {w : World} {a : Option Addr} {n c : Nat} {xs : List Value} (h : Row lo hi w (.slice a n c) n xs) (h0 : 0 < n) : ∃ b : Addr, a = some b ∧ ∀ j u, xs[j]? = some u → w.cell? (b.add j) = some u := by
  obtain ⟨g, o, rfl, _, _, hcell⟩ := h.at h0
  exact ⟨_, rfl, fun j u hj => by rw [addr_mid]; exact hcell j u hj⟩
/-- The one law of append onto a row of one's own: for every element type here. -/
theorem app_own {t e : TypeId} {i : TypeInfo} {z : Value} {size bytes : Nat} (ht : Tryd.prog.underlying t = some (.slice e)) (hi : Tryd.prog.info? e = some i) (hz : i.zero = some z) (hsize : i.size = size) (hby : i.bytes = bytes) (hzs : z.cells.size = size) (hsz : 0 < size)
    (w : World) (base lo hi' : Nat) (v : Value) (n : Nat) (xs : List Value) (a : Option Addr) (m c : Nat) (ys : List Value) (ty : TypeId) (ho : w.ownsRow base e size v n xs) (hr : Row lo hi' w (.slice a m c) m ys) (hl : ys.length = m * size) (h1 : ∀ u ∈ ys, u.oneCell' = true) (hmax : (n + m) * bytes ≤ 100000000000) (hbytes : 0 < bytes) (hbase : base ≤ w.heap.size) :
    ∃ v' w', (Builtin.append_ #[t, t] ty #[v, .slice a m c]).run Tryd.prog w = .ok v' w' ∧ w'.ownsRow base e size v' (n + m) (xs ++ ys) ∧ w.grownBy w' v.ownBlock ∧ (v'.ownBlock = v.ownBlock ∨ v'.ownBlock = some w.heap.size) := by
  have hnm : n + m ≤ 100000000000 := Nat.le_trans (Nat.le_mul_of_pos_right _ hbytes) hmax
  by_cases h0 : 0 < m
  · obtain ⟨b, rfl, hcell⟩ := hr.src h0
    obtain ⟨v', w', hr', h2, h3, -⟩ := run_append_own (P := Tryd.prog) w base t ty e i z size bytes ht hi hz hsize hby hzs hsz v n xs ho b m c ys hl hcell h1 (by simp only [maxLen]; omega) (by omega) hbase
    refine ⟨v', w', hr', h2, h3, ?_⟩
    subst hsize
    subst hby
    rcases ho.2 with ⟨rfl, rfl⟩ | ⟨g, cap, cur, rfl, hg, hh, hcap, hm, hcs, htk⟩
    · rw [run_append_nil (P := Tryd.prog) w t ty e i z ht hi hz b m c ys hl hcell h0 (by omega) (by rw [Nat.zero_add] at hmax; omega)] at hr'
      injection hr' with e1 e2
      subst e1
      exact .inr rfl
    · by_cases hroom : n + m ≤ cap
      · rw [run_append_room (P := Tryd.prog) w t ty e i ht hi g n cap cur hh b m c ys hl hcell h1 hroom (by rw [hl, hcs, ← Nat.add_mul]; exact Nat.mul_le_mul_right _ hroom)] at hr'
        injection hr' with e1 e2
        subst e1
        exact .inl rfl
      · have hold : ∀ j u, xs[j]? = some u → w.cell? ((⟨g, 0, none⟩ : Addr).add j) = some u := fun j u hj => by
          rw [addr_mid, Nat.zero_add]
          have e0 : w.cell? ⟨g, j, none⟩ = cur[j]? := by unfold World.cell?; simp [hh]
          rw [e0]
          rw [← htk] at hj
          have hj2 := (List.getElem?_eq_some_iff.1 hj).1
          rw [List.length_take] at hj2
          rw [List.getElem?_take_of_lt (by omega)] at hj
          rw [← hj]; simp
        have hfit : Builtin.nextslicecap (n + m) cap * i.bytes ≤ 281474976710656 := growslice_fits (by omega) (by omega)
        rw [run_append_grow (P := Tryd.prog) w t ty e i z ht hi hz ⟨g, 0, none⟩ n cap xs ho.1 hold b m c ys hl hcell (by omega) (by omega) hfit] at hr'
        injection hr' with e1 e2
        subst e1
        exact .inr rfl
  · obtain rfl : m = 0 := by omega
    obtain rfl : ys = [] := List.eq_nil_of_length_eq_zero (by rw [hl]; omega)
    have hsrc : Src Tryd.prog i.size t (.slice a 0 c) 0 [] w := by
      cases a with
      | none => exact Src.ofNil w ht c
      | some x => exact Src.ofSlice w ht x 0 c [] (by simp) (fun j u hj => by simp at hj) (fun u hu => by simp at hu)
    obtain ⟨b, n', cp, rfl, hle, hn⟩ : ∃ b n' cp, v = .slice b n' cp ∧ n' ≤ cp ∧ n' = n := by
      rcases ho.2 with ⟨rfl, h⟩ | ⟨g, cap, cur, rfl, _, _, h, _⟩
      · exact ⟨none, 0, 0, rfl, Nat.le_refl _, h.symm⟩
      · exact ⟨_, _, _, rfl, h, rfl⟩
    refine ⟨_, w, run_append_nothing w t t ty e i ht hi b n' cp hle _ hsrc, ?_, ?_, .inl rfl⟩
    · rw [List.append_nil]; exact ho
    · exact ⟨rfl, rfl, rfl, Nat.le_refl _, fun _ _ _ => rfl⟩
theorem app22_own (w : World) (base lo hi : Nat) (v : Value) (n : Nat) (xs : List Value) (a : Option Addr) (m c : Nat) (ys : List Value) (ho : w.ownsRow base 5 1 v n xs) (hr : Row lo hi w (.slice a m c) m ys) (hl : ys.length = m) (h1 : ∀ u ∈ ys, u.oneCell' = true) (hmax : n + m ≤ 100000000) (hbase : base ≤ w.heap.size) :
    ∃ v' w', (∀ ty, (app22 ty #[v, .slice a m c]).run Tryd.prog w = .ok v' w') ∧ w'.ownsRow base 5 1 v' (n + m) (xs ++ ys) ∧ w.grownBy w' v.ownBlock ∧ (v'.ownBlock = v.ownBlock ∨ v'.ownBlock = some w.heap.size) := by
  obtain ⟨i, hi', hz, hsz, hby⟩ := info5
  obtain ⟨v', w', hr', h2, h3, h4⟩ := app_own Tryd.underlying22 hi' hz hsz hby rfl (by omega) w base lo hi v n xs a m c ys 22 ho hr (by omega) h1 (by omega) (by omega) hbase
  exact ⟨v', w', fun ty => hr', h2, h3, h4⟩
theorem app23_own (w : World) (base lo hi : Nat) (v : Value) (n : Nat) (xs : List Value) (a : Option Addr) (m c : Nat) (ys : List Value) (ho : w.ownsRow base 9 1 v n xs) (hr : Row lo hi w (.slice a m c) m ys) (hl : ys.length = m) (h1 : ∀ u ∈ ys, u.oneCell' = true) (hmax : n + m ≤ 100000000) (hbase : base ≤ w.heap.size) :
    ∃ v' w', (∀ ty, (app23 ty #[v, .slice a m c]).run Tryd.prog w = .ok v' w') ∧ w'.ownsRow base 9 1 v' (n + m) (xs ++ ys) ∧ w.grownBy w' v.ownBlock ∧ (v'.ownBlock = v.ownBlock ∨ v'.ownBlock = some w.heap.size) := by
  obtain ⟨i, hi', hz, hsz, hby⟩ := info9
  obtain ⟨v', w', hr', h2, h3, h4⟩ := app_own Tryd.underlying23 hi' hz hsz hby rfl (by omega) w base lo hi v n xs a m c ys 23 ho hr (by omega) h1 (by omega) (by omega) hbase
  exact ⟨v', w', fun ty => hr', h2, h3, h4⟩
theorem app24_own (w : World) (base lo hi : Nat) (v : Value) (n : Nat) (xs : List Value) (a : Option Addr) (m c : Nat) (ys : List Value) (ho : w.ownsRow base 26 5 v n xs) (hr : Row lo hi w (.slice a m c) m ys) (hl : ys.length = m * 5) (h1 : ∀ u ∈ ys, u.oneCell' = true) (hmax : n + m ≤ 100000000) (hbase : base ≤ w.heap.size) :
    ∃ v' w', (∀ ty, (app24 ty #[v, .slice a m c]).run Tryd.prog w = .ok v' w') ∧ w'.ownsRow base 26 5 v' (n + m) (xs ++ ys) ∧ w.grownBy w' v.ownBlock ∧ (v'.ownBlock = v.ownBlock ∨ v'.ownBlock = some w.heap.size) := by
  obtain ⟨i, hi', hz, hsz, hby⟩ := info26
  obtain ⟨v', w', hr', h2, h3, h4⟩ := app_own Tryd.underlying24 hi' hz hsz hby rfl (by omega) w base lo hi v n xs a m c ys 24 ho hr hl h1 (by omega) (by omega) hbase
  exact ⟨v', w', fun ty => hr', h2, h3, h4⟩
end Go.Proofs.YthfjofmfiklegabDoor
/- What stands where it stood while other blocks turn. -/
namespace Go.Proofs.YthfjofmfiklegabDoor
open Go.RowKit
theorem Row.same {lo hi : Nat} {w w' : World} {v : Value} {n : Nat} {xs : List Value} (h : Row lo hi w v n xs) (hs : ∀ k, lo ≤ k → k < hi → w'.heap[k]? = w.heap[k]?) : Row lo hi w' v n xs := by
  obtain ⟨a, c, e, hc, hx⟩ := h
  refine ⟨a, c, e, hc, fun h0 => ?_⟩
  obtain ⟨g, o, ea, hg1, hg2, hcell⟩ := hx h0
  exact ⟨g, o, ea, hg1, hg2, fun j u hj => by rw [World.cell?_of_block (w := w) (a := ⟨g, o + j, none⟩) (hs g hg1 hg2)]; exact hcell j u hj⟩
theorem Lies.same {lo hi : Nat} {w w' : World} {T : Tr} {cs : List Value} (h : Lies lo hi w T cs) (hs : ∀ k, lo ≤ k → k < hi → w'.heap[k]? = w.heap[k]?) : Lies lo hi w' T cs := by
  induction h with
  | mk k x d ns ks vd vn vk Ks hl hd hn hk hK ih => exact .mk k x d ns ks vd vn vk Ks hl (hd.same hs) (hn.same hs) (hk.same hs) ih
theorem cell_of_row (w : World) (g j : Nat) (c : Array Value) (t : TypeId) (f : Nat × Nat) (h : w.heap[g]? = some (.cells c t f)) : w.cell? ⟨g, j, none⟩ = c[j]? := by
  unfold World.cell?; simp [h]
theorem owns_row {w : World} {base lo hi : Nat} {e : TypeId} {size : Nat} {v : Value} {n : Nat} {xs : List Value} (h : w.ownsRow base e size v n xs) (hb : ∀ g, v.ownBlock = some g → lo ≤ g ∧ g < hi) : Row lo hi w v n xs := by
  rcases h.2 with ⟨rfl, rfl⟩ | ⟨g, cap, cur, rfl, hg, hh, hcap, hm, hsz, ht⟩
  · exact ⟨none, 0, rfl, Nat.le_refl _, fun h => by omega⟩
  · refine ⟨_, cap, rfl, hcap, fun _ => ⟨g, 0, rfl, (hb g rfl).1, (hb g rfl).2, fun j u hj => ?_⟩⟩
    rw [cell_of_row w g (0 + j) cur e _ hh, Nat.zero_add]
    rw [← ht] at hj
    have hj2 := (List.getElem?_eq_some_iff.1 hj).1
    rw [List.length_take] at hj2
    rw [List.getElem?_take_of_lt (by omega)] at hj
    rw [← hj]; simp
theorem owns_lt {w : World} {base : Nat} {e : TypeId} {size : Nat} {v : Value} {n : Nat} {xs : List Value} (h : w.ownsRow base e size v n xs) : ∀ g, v.ownBlock = some g → base ≤ g ∧ g < w.heap.size := by
  intro g hg
  rcases h.2 with ⟨rfl, rfl⟩ | ⟨g', cap, cur, rfl, hg', hh, _⟩
  · simp [Value.ownBlock] at hg
  · simp [Value.ownBlock] at hg; subst hg; exact ⟨hg', (Array.getElem?_eq_some_iff.1 hh).1⟩
theorem owns_slice {w : World} {base : Nat} {e : TypeId} {size : Nat} {v : Value} {n : Nat} {xs : List Value} (h : w.ownsRow base e size v n xs) : ∃ a c, v = .slice a n c ∧ n ≤ c := by
  rcases h.2 with ⟨rfl, rfl⟩ | ⟨g', cap, cur, rfl, hg', hh, hc, _⟩
  · exact ⟨none, 0, rfl, Nat.le_refl _⟩
  · exact ⟨_, _, rfl, hc⟩
theorem Bx.fr {w : World} {b : Nat} {v0 v1 v2 v3 v4 : Value} (h : Bx w b v0 v1 v2 v3 v4) (o : Nat) : w.frozen? ⟨b, o, none⟩ = false := by
  unfold World.frozen?; rw [show w.heap[b]? = _ from h]; simp
theorem Bx.set2 {w : World} {b : Nat} {v0 v1 v2 v3 v4 : Value} (h : Bx w b v0 v1 v2 v3 v4) (v : Value) : Bx (w.setCell ⟨b, 2, none⟩ v) b v0 v1 v v3 v4 := by
  unfold Bx at *; simp [World.setCell, Array.getElem?_modify, h]
theorem Bx.set3 {w : World} {b : Nat} {v0 v1 v2 v3 v4 : Value} (h : Bx w b v0 v1 v2 v3 v4) (v : Value) : Bx (w.setCell ⟨b, 3, none⟩ v) b v0 v1 v2 v v4 := by
  unfold Bx at *; simp [World.setCell, Array.getElem?_modify, h]
theorem Bx.set4 {w : World} {b : Nat} {v0 v1 v2 v3 v4 : Value} (h : Bx w b v0 v1 v2 v3 v4) (v : Value) : Bx (w.setCell ⟨b, 4, none⟩ v) b v0 v1 v2 v3 v := by
  unfold Bx at *; simp [World.setCell, Array.getElem?_modify, h]
theorem set_other (w : World) (b o k : Nat) (v : Value) (h : k ≠ b) : (w.setCell ⟨b, o, none⟩ v).heap[k]? = w.heap[k]? := Below.heap_setCell _ _ _ _ h
end Go.Proofs.YthfjofmfiklegabDoor
/- Rows of the call's own, made one behind the other: bytes, names, kids. -/
namespace Go.Proofs.YthfjofmfiklegabDoor
open Go.RowKit
theorem owns_new (w : World) (e : TypeId) (size : Nat) : (w.alloc (.cells #[] e)).ownsRow w.heap.size e size (.slice (some ⟨w.heap.size, 0, none⟩) 0 0) 0 [] :=
  ⟨by simp, .inr ⟨w.heap.size, 0, #[], rfl, Nat.le_refl _, by show (w.heap.push _)[w.heap.size]? = _; rw [Array.getElem?_push, if_pos rfl], Nat.le_refl _, Nat.zero_le _, by simp, by simp⟩⟩
theorem one_bytes (d : ByteArray) : ∀ u ∈ byteVals d, u.oneCell' = true := fun u hu => by obtain ⟨b, -, rfl⟩ := List.mem_map.1 hu; rfl
theorem one_strs (ns : List ByteArray) : ∀ u ∈ ns.map Value.string, u.oneCell' = true := fun u hu => by obtain ⟨b, -, rfl⟩ := List.mem_map.1 hu; rfl
/-- What is appended to an empty literal is a row of its own. -/
theorem fresh22 (w : World) (lo hi : Nat) (a : Option Addr) (m c : Nat) (ys : List Value) (hr : Row lo hi w (.slice a m c) m ys) (hl : ys.length = m) (h1 : ∀ u ∈ ys, u.oneCell' = true) (hmax : m ≤ 100000000) (hhi : hi ≤ w.heap.size) :
    ∃ a1 c1 w1, (∀ ty, (app22 ty #[.slice (some ⟨w.heap.size, 0, none⟩) 0 0, .slice a m c]).run Tryd.prog (w.alloc (.cells #[] 5)) = .ok (.slice a1 m c1) w1) ∧ Below w.heap.size w w1 ∧ Row w.heap.size w1.heap.size w1 (.slice a1 m c1) m ys := by
  have hb : Below w.heap.size w (w.alloc (.cells #[] 5)) := (Below.refl _ _).alloc (Nat.le_refl _) _
  obtain ⟨v1, w1, happ, ho, hg, _⟩ := app22_own _ _ lo hi _ 0 [] a m c ys (owns_new w 5 1) (hr.below hb hhi) hl h1 (by omega) (by simp)
  rw [Nat.zero_add, List.nil_append] at ho
  obtain ⟨a1, c1, rfl, _⟩ := owns_slice ho
  exact ⟨a1, c1, w1, happ, hb.grown hg (by simp) (fun k hk => by simp [Value.ownBlock] at hk; omega), owns_row ho (owns_lt ho)⟩
theorem fresh23 (w : World) (lo hi : Nat) (a : Option Addr) (m c : Nat) (ys : List Value) (hr : Row lo hi w (.slice a m c) m ys) (hl : ys.length = m) (h1 : ∀ u ∈ ys, u.oneCell' = true) (hmax : m ≤ 100000000) (hhi : hi ≤ w.heap.size) :
    ∃ a1 c1 w1, (∀ ty, (app23 ty #[.slice (some ⟨w.heap.size, 0, none⟩) 0 0, .slice a m c]).run Tryd.prog (w.alloc (.cells #[] 9)) = .ok (.slice a1 m c1) w1) ∧ Below w.heap.size w w1 ∧ Row w.heap.size w1.heap.size w1 (.slice a1 m c1) m ys := by
  have hb : Below w.heap.size w (w.alloc (.cells #[] 9)) := (Below.refl _ _).alloc (Nat.le_refl _) _
  obtain ⟨v1, w1, happ, ho, hg, _⟩ := app23_own _ _ lo hi _ 0 [] a m c ys (owns_new w 9 1) (hr.below hb hhi) hl h1 (by omega) (by simp)
  rw [Nat.zero_add, List.nil_append] at ho
  obtain ⟨a1, c1, rfl, _⟩ := owns_slice ho
  exact ⟨a1, c1, w1, happ, hb.grown hg (by simp) (fun k hk => by simp [Value.ownBlock] at hk; omega), owns_row ho (owns_lt ho)⟩
/-- Kids of the call's own, so many yet, in a row of its own. -/
def KidsAt (Z : Nat) (w : World) (v : Value) (ks : List Tr) (i : Nat) : Prop :=
  ∃ Ks : List (List Value), Ks.length = i ∧ (∀ c ∈ Ks, c.length = 5) ∧ w.ownsRow Z 26 5 v i Ks.flatten ∧
    ∀ (j : Nat) (t : Tr) (c : List Value), ks[j]? = some t → Ks[j]? = some c → ∃ L H, Lies L H w t c ∧ Z ≤ L ∧ H ≤ w.heap.size ∧ ∀ g, v.ownBlock = some g → g < L ∨ H ≤ g
theorem kids_none (Z : Nat) (w : World) (ks : List Tr) : KidsAt Z w (.slice none 0 0) ks 0 :=
  ⟨[], rfl, fun c hc => by simp at hc, ⟨rfl, .inl ⟨rfl, rfl⟩⟩, fun j t c _ hc => by simp at hc⟩
theorem Lies.one {lo hi : Nat} {w : World} {T : Tr} {cs : List Value} (h : Lies lo hi w T cs) : ∀ u ∈ cs, u.oneCell' = true := by
  obtain ⟨k, x, a1, n1, c1, a2, n2, c2, a3, n3, c3, rfl⟩ := h.form
  intro u hu
  simp at hu
  rcases hu with rfl | rfl | rfl | rfl | rfl <;> rfl
theorem one_row (w : World) (cs : List Value) (e : TypeId) : Row w.heap.size (w.heap.size + 1) (w.alloc (.cells cs.toArray e)) (.slice (some ⟨w.heap.size, 0, none⟩) 1 1) 1 cs := by
  refine ⟨_, 1, rfl, Nat.le_refl _, fun _ => ⟨w.heap.size, 0, rfl, Nat.le_refl _, by omega, fun j u hj => ?_⟩⟩
  rw [cell_of_row (w.alloc (.cells cs.toArray e)) w.heap.size (0 + j) cs.toArray e (0, 0) (by show (w.heap.push _)[w.heap.size]? = _; rw [Array.getElem?_push, if_pos rfl]), Nat.zero_add]
  simpa using hj
/-- One more kid is appended. -/
theorem kids_step {Z : Nat} {wr w1 : World} {v : Value} {ks : List Tr} {i : Nat} {cs : List Value} {t : Tr} (h : KidsAt Z wr v ks i) (hb : Below wr.heap.size wr w1) (hL : Lies wr.heap.size w1.heap.size w1 t cs) (ht : ks[i]? = some t) (hmax : i ≤ 1000000) (hZ : Z ≤ wr.heap.size) :
    ∃ a' c' w2, (∀ ty, (app24 ty #[v, .slice (some ⟨w1.heap.size, 0, none⟩) 1 1]).run Tryd.prog (w1.alloc (.cells cs.toArray 26)) = .ok (.slice a' (i + 1) c') w2) ∧ KidsAt Z w2 (.slice a' (i + 1) c') ks (i + 1) ∧ Below Z wr w2 := by
  obtain ⟨Ks, hKl, hK5, ho, hK⟩ := h
  have hb1 : Below w1.heap.size w1 (w1.alloc (.cells cs.toArray 26)) := (Below.refl _ _).alloc (Nat.le_refl _) _
  have hb2 : Below wr.heap.size wr (w1.alloc (.cells cs.toArray 26)) := hb.trans (hb1.mono hb.size)
  have hsz := hb.size
  have ho1 : (w1.alloc (.cells cs.toArray 26)).ownsRow Z 26 5 v i Ks.flatten := owns_same ho (fun g hg => hb2.block g (owns_lt ho g hg).2) (fun g _ h => h)
  obtain ⟨v', w2, happ, ho2, hg, hf⟩ := app24_own _ Z _ _ v i Ks.flatten _ 1 1 cs ho1 (one_row w1 cs 26) (by rw [hL.length]) hL.one (by omega) (by simp; omega)
  obtain ⟨a', c', rfl, _⟩ := owns_slice ho2
  have hbw : Below Z wr w2 := (hb2.mono hZ).grown hg (by simp; omega) (fun k hk => (owns_lt ho1 k hk).1)
  have hs1 : (w1.alloc (.cells cs.toArray 26)).heap.size = w1.heap.size + 1 := by simp
  have hs2 := hg.size
  rw [hs1] at hs2 hf
  refine ⟨a', c', w2, happ, ⟨Ks ++ [cs], by rw [List.length_append, hKl]; rfl, ?_, ?_, ?_⟩, hbw⟩
  · intro c hc
    rcases List.mem_append.1 hc with h | h
    · exact hK5 c h
    · simp at h; subst h; exact hL.length
  · rw [List.flatten_append]; simpa using ho2
  · intro j t' c' hj hc
    by_cases hji : j < i
    · rw [List.getElem?_append_left (by omega)] at hc
      obtain ⟨L, H, hLj, hZL, hHw, hap⟩ := hK j t' c' hj hc
      refine ⟨L, H, hLj.same (fun k hk1 hk2 => ?_), hZL, by omega, fun g hgv => ?_⟩
      · rw [hg.block k (by rw [hs1]; omega) (fun e => by have := hap k e.symm; omega), hb2.block k (by omega)]
      · rcases hf with h | h
        · exact hap g (by rw [← h]; exact hgv)
        · rw [h] at hgv; simp at hgv; omega
    · obtain rfl : j = i := by
        have := (List.getElem?_eq_some_iff.1 hc).1
        simp at this; omega
      rw [ht] at hj
      cases hj
      rw [List.getElem?_append_right (by omega), hKl] at hc
      simp at hc
      subst hc
      refine ⟨wr.heap.size, w1.heap.size, hL.same (fun k hk1 hk2 => ?_), hZ, by omega, fun g hgv => ?_⟩
      · rw [hg.block k (by rw [hs1]; omega) (fun e => by have := (owns_lt ho k e.symm).2; omega), hb1.block k (by omega)]
      · rcases hf with h | h
        · have := (owns_lt ho g (by rw [← h]; exact hgv)).2; omega
        · rw [h] at hgv; simp at hgv; omega
theorem kids_end {Z : Nat} {w : World} {v : Value} {ks : List Tr} (h : KidsAt Z w v ks ks.length) :
    ∃ Ks : List (List Value), Ks.length = ks.length ∧ Row Z w.heap.size w v ks.length Ks.flatten ∧ ∀ (j : Nat) (t : Tr) (c : List Value), ks[j]? = some t → Ks[j]? = some c → Lies Z w.heap.size w t c := by
  obtain ⟨Ks, hKl, hK5, ho, hK⟩ := h
  exact ⟨Ks, hKl, owns_row ho (owns_lt ho), fun j t c hj hc => by obtain ⟨L, H, hL, h1, h2, _⟩ := hK j t c hj hc; exact hL.mono h1 h2⟩
/-- What the row of kids is in a world in which nothing of it has turned. -/
theorem KidsAt.same {Z : Nat} {w w' : World} {v : Value} {ks : List Tr} {i : Nat} (h : KidsAt Z w v ks i) (hs : ∀ k, Z ≤ k → k < w.heap.size → w'.heap[k]? = w.heap[k]?) (hz : w.heap.size ≤ w'.heap.size) : KidsAt Z w' v ks i := by
  obtain ⟨Ks, hKl, hK5, ho, hK⟩ := h
  refine ⟨Ks, hKl, hK5, owns_same ho (fun g hg => hs g (owns_lt ho g hg).1 (owns_lt ho g hg).2) (fun g _ h => h), fun j t c hj hc => ?_⟩
  obtain ⟨L, H, hL, h1, h2, h3⟩ := hK j t c hj hc
  exact ⟨L, H, hL.same (fun k hk1 hk2 => hs k (by omega) (by omega)), h1, by omega, h3⟩
end Go.Proofs.YthfjofmfiklegabDoor
/- A tree in memory of its own: rows that share no block. -/
namespace Go.Proofs.YthfjofmfiklegabDoor
open Go.RowKit
inductive Own (w : World) : Nat → Nat → Tr → List Value → Prop
  | mk (lo hi : Nat) (k : Int) (x : Bool) (d : ByteArray) (ns : List ByteArray) (ks : List Tr) (vd vn vk : Value) (Ks : List (List Value)) (L H : Nat → Nat) (hl : Ks.length = ks.length)
      (hd : w.ownsRow lo 5 1 vd d.size (byteVals d)) (hn : w.ownsRow lo 9 1 vn ns.length (ns.map .string)) (hk : w.ownsRow lo 26 5 vk ks.length Ks.flatten)
      (hin : ∀ g, (vd.ownBlock = some g ∨ vn.ownBlock = some g ∨ vk.ownBlock = some g) → g < hi) (hne : ∀ g, vk.ownBlock = some g → vd.ownBlock ≠ some g ∧ vn.ownBlock ≠ some g)
      (hdn : ∀ g, vn.ownBlock = some g → vd.ownBlock ≠ some g)
      (hK : ∀ (i : Nat) (t : Tr) (c : List Value), ks[i]? = some t → Ks[i]? = some c → Own w (L i) (H i) t c)
      (hLH : ∀ i, i < ks.length → lo ≤ L i ∧ H i ≤ hi ∧ ∀ g, (vd.ownBlock = some g ∨ vn.ownBlock = some g ∨ vk.ownBlock = some g) → g < L i ∨ H i ≤ g)
      (hdis : ∀ i j, i < j → j < ks.length → H i ≤ L j) : Own w lo hi (.mk k x d ns ks) [.int .i64 k, .bool x, vd, vn, vk]
theorem Own.same {w w' : World} {lo hi : Nat} {T : Tr} {cs : List Value} (h : Own w lo hi T cs) : (∀ k, lo ≤ k → k < hi → w'.heap[k]? = w.heap[k]?) → Own w' lo hi T cs := by
  induction h with
  | mk lo hi k x d ns ks vd vn vk Ks L H hl hd hn hk hin hne hdn hK hLH hdis ih =>
    intro hs
    refine .mk lo hi k x d ns ks vd vn vk Ks L H hl ?_ ?_ ?_ hin hne hdn (fun i t c h1 h2 => ih i t c h1 h2 (fun k hk1 hk2 => ?_)) hLH hdis
    · exact owns_same hd (fun g hg => hs g (owns_lt hd g hg).1 (hin g (.inl hg))) (fun _ _ h => h)
    · exact owns_same hn (fun g hg => hs g (owns_lt hn g hg).1 (hin g (.inr (.inl hg)))) (fun _ _ h => h)
    · exact owns_same hk (fun g hg => hs g (owns_lt hk g hg).1 (hin g (.inr (.inr hg)))) (fun _ _ h => h)
    · have := hLH i (List.getElem?_eq_some_iff.1 h1).1
      exact hs k (by omega) (by omega)
theorem Own.lies {w : World} {lo hi : Nat} {T : Tr} {cs : List Value} (h : Own w lo hi T cs) : Lies lo hi w T cs := by
  induction h with
  | mk lo hi k x d ns ks vd vn vk Ks L H hl hd hn hk hin hne hdn hK hLH hdis ih =>
    refine .mk k x d ns ks vd vn vk Ks hl (owns_row hd (fun g hg => ⟨(owns_lt hd g hg).1, hin g (.inl hg)⟩)) (owns_row hn (fun g hg => ⟨(owns_lt hn g hg).1, hin g (.inr (.inl hg))⟩)) (owns_row hk (fun g hg => ⟨(owns_lt hk g hg).1, hin g (.inr (.inr hg))⟩)) (fun i t c h1 h2 => ?_)
    have := hLH i (List.getElem?_eq_some_iff.1 h1).1
    exact (ih i t c h1 h2).mono (by omega) (by omega)
theorem Own.mono {w : World} {lo hi lo' hi' : Nat} {T : Tr} {cs : List Value} (h : Own w lo hi T cs) (h1 : lo' ≤ lo) (h2 : hi ≤ hi') : Own w lo' hi' T cs := by
  cases h with
  | mk _ _ k x d ns ks vd vn vk Ks L H hl hd hn hk hin hne hdn hK hLH hdis =>
    refine .mk lo' hi' k x d ns ks vd vn vk Ks L H hl (owns_same hd (fun _ _ => rfl) (fun _ _ h => by omega)) (owns_same hn (fun _ _ => rfl) (fun _ _ h => by omega)) (owns_same hk (fun _ _ => rfl) (fun _ _ h => by omega)) (fun g hg => by have := hin g hg; omega) hne hdn hK (fun i hi => ?_) hdis
    have := hLH i hi
    exact ⟨by omega, by omega, this.2.2⟩
/-- A clone under way: so many names, so many kids yet. -/
structure Cl (Z : Nat) (w : World) (vn vk : Value) (ns : List ByteArray) (ks : List Tr) (p q : Nat) : Prop where
  names : w.ownsRow Z 9 1 vn p ((ns.take p).map .string)
  kids : ∃ (Ks : List (List Value)) (L H : Nat → Nat), Ks.length = q ∧ (∀ c ∈ Ks, c.length = 5) ∧ w.ownsRow Z 26 5 vk q Ks.flatten ∧
    (∀ (j : Nat) (t : Tr) (c : List Value), ks[j]? = some t → Ks[j]? = some c → Own w (L j) (H j) t c ∧ Z ≤ L j ∧ H j ≤ w.heap.size ∧ ∀ g, (vn.ownBlock = some g ∨ vk.ownBlock = some g) → g < L j ∨ H j ≤ g) ∧ ∀ i j, i < j → j < q → H i ≤ L j
  ne : ∀ g, vk.ownBlock = some g → vn.ownBlock ≠ some g
/-- Nothing of it has turned. -/
theorem Cl.same {Z : Nat} {w w' : World} {vn vk : Value} {ns : List ByteArray} {ks : List Tr} {p q : Nat} (h : Cl Z w vn vk ns ks p q) (hs : ∀ k, Z ≤ k → k < w.heap.size → w'.heap[k]? = w.heap[k]?) (hz : w.heap.size ≤ w'.heap.size) : Cl Z w' vn vk ns ks p q := by
  obtain ⟨hn, ⟨Ks, L, H, hKl, hK5, ho, hK, hdis⟩, hne⟩ := h
  refine ⟨owns_same hn (fun g hg => hs g (owns_lt hn g hg).1 (owns_lt hn g hg).2) (fun _ _ h => h), ⟨Ks, L, H, hKl, hK5, owns_same ho (fun g hg => hs g (owns_lt ho g hg).1 (owns_lt ho g hg).2) (fun _ _ h => h), fun j t c hj hc => ?_, hdis⟩, hne⟩
  obtain ⟨h1, h2, h3, h4⟩ := hK j t c hj hc
  exact ⟨h1.same (fun k hk1 hk2 => hs k (by omega) (by omega)), h2, by omega, h4⟩
/-- One more name. -/
theorem cl_name {Z : Nat} {wr w1 : World} {vn vk : Value} {ns : List ByteArray} {ks : List Tr} {p q : Nat} (s : ByteArray) (h : Cl Z wr vn vk ns ks p q) (hb : Below wr.heap.size wr w1) (hs : ns[p]? = some s) (hmax : p ≤ 1000000) (hZ : Z ≤ wr.heap.size) :
    ∃ a' c' w2, (∀ ty, (app23 ty #[vn, .slice (some ⟨w1.heap.size, 0, none⟩) 1 1]).run Tryd.prog (w1.alloc (.cells #[.string s] 9)) = .ok (.slice a' (p + 1) c') w2) ∧ Cl Z w2 (.slice a' (p + 1) c') vk ns ks (p + 1) q ∧ Below Z wr w2 ∧ wr.heap.size ≤ w2.heap.size := by
  have h1 := h.same (w' := w1.alloc (.cells #[.string s] 9)) (fun k _ hk => by rw [Below.heap_alloc _ _ _ (by have := hb.size; omega), hb.block k hk]) (by have := hb.size; simp; omega)
  obtain ⟨hn, ⟨Ks, L, H, hKl, hK5, ho, hK, hdis⟩, hne⟩ := h1
  have hsz := hb.size
  obtain ⟨v', w2, happ, ho2, hg, hf⟩ := app23_own _ Z _ _ vn p _ _ 1 1 [.string s] hn (one_row w1 [.string s] 9) rfl (fun u hu => by simp at hu; subst hu; rfl) (by omega) (by simp; omega)
  obtain ⟨a', c', rfl, _⟩ := owns_slice ho2
  have hs1 : (w1.alloc (.cells #[.string s] 9)).heap.size = w1.heap.size + 1 := by simp
  have hs2 := hg.size
  rw [hs1] at hs2 hf
  have hb0 : Below Z wr (w1.alloc (.cells #[.string s] 9)) := (hb.mono hZ).alloc (by omega) _
  refine ⟨a', c', w2, happ, ⟨?_, ⟨Ks, L, H, hKl, hK5, owns_same ho (fun g hgk => hg.block g (owns_lt ho g hgk).2 (fun e => hne g hgk e.symm)) (fun _ _ h => h), fun j t c hj hc => ?_, hdis⟩, ?_⟩, hb0.grown hg (by omega) (fun k hk => (owns_lt hn k hk).1), by omega⟩
  · rw [List.take_add_one, hs]
    simpa using ho2
  · obtain ⟨q1, q2, q3, q4⟩ := hK j t c hj hc
    rw [hs1] at q3
    refine ⟨q1.same (fun k hk1 hk2 => hg.block k (by rw [hs1]; omega) (fun e => by have := q4 k (.inl e.symm); omega)), q2, by omega, fun g hgv => ?_⟩
    rcases hgv with hgv | hgv
    · rcases hf with e | e
      · exact q4 g (.inl (by rw [← e]; exact hgv))
      · rw [e] at hgv; simp at hgv; omega
    · exact q4 g (.inr hgv)
  · intro g hgk e
    rcases hf with e2 | e2
    · exact hne g hgk (by rw [← e2]; exact e)
    · rw [e2] at e
      have := (owns_lt ho g hgk).2
      simp at e
      omega
/-- One more kid. -/
theorem cl_kid {Z : Nat} {wr w1 : World} {vn vk : Value} {ns : List ByteArray} {ks : List Tr} {p q : Nat} {cs : List Value} {t : Tr} (h : Cl Z wr vn vk ns ks p q) (hb : Below wr.heap.size wr w1) (hL : Own w1 wr.heap.size w1.heap.size t cs) (ht : ks[q]? = some t) (hmax : q ≤ 1000000) (hZ : Z ≤ wr.heap.size) :
    ∃ a' c' w2, (∀ ty, (app24 ty #[vk, .slice (some ⟨w1.heap.size, 0, none⟩) 1 1]).run Tryd.prog (w1.alloc (.cells cs.toArray 26)) = .ok (.slice a' (q + 1) c') w2) ∧ Cl Z w2 vn (.slice a' (q + 1) c') ns ks p (q + 1) ∧ Below Z wr w2 ∧ wr.heap.size ≤ w2.heap.size := by
  have hsz := hb.size
  have hs1 : (w1.alloc (.cells cs.toArray 26)).heap.size = w1.heap.size + 1 := by simp
  have hsame : ∀ k, k < wr.heap.size → (w1.alloc (.cells cs.toArray 26)).heap[k]? = wr.heap[k]? := fun k hk => by rw [Below.heap_alloc _ _ _ (by omega), hb.block k hk]
  obtain ⟨hn0, ⟨Ks, L, H, hKl, hK5, ho0, hK, hdis⟩, hne⟩ := h
  have hn := owns_same (base' := Z) hn0 (fun g hg => hsame g (owns_lt hn0 g hg).2) (fun _ _ h => h)
  have ho := owns_same (base' := Z) ho0 (fun g hg => hsame g (owns_lt ho0 g hg).2) (fun _ _ h => h)
  obtain ⟨v', w2, happ, ho2, hg, hf⟩ := app24_own _ Z _ _ vk q _ _ 1 1 cs ho (one_row w1 cs 26) (by rw [hL.lies.length]) hL.lies.one (by omega) (by simp; omega)
  obtain ⟨a', c', rfl, _⟩ := owns_slice ho2
  have hs2 := hg.size
  rw [hs1] at hs2 hf
  have hb0 : Below Z wr (w1.alloc (.cells cs.toArray 26)) := (hb.mono hZ).alloc (by omega) _
  refine ⟨a', c', w2, happ, ⟨?_, ⟨Ks ++ [cs], fun j => if j < q then L j else wr.heap.size, fun j => if j < q then H j else w1.heap.size, ?_, ?_, ?_, fun j t' c hj hc => ?_, ?_⟩, ?_⟩, hb0.grown hg (by omega) (fun k hk => (owns_lt ho k hk).1), by omega⟩
  · exact owns_same hn (fun g hgn => hg.block g (by have := (owns_lt hn0 g hgn).2; omega) (fun e => hne g e.symm hgn)) (fun _ _ h => h)
  · rw [List.length_append, hKl]; rfl
  · intro c hc
    rcases List.mem_append.1 hc with h | h
    · exact hK5 c h
    · simp at h; subst h; exact hL.lies.length
  · rw [List.flatten_append]; simpa using ho2
  · by_cases hji : j < q
    · rw [List.getElem?_append_left (by omega)] at hc
      obtain ⟨q1, q2, q3, q4⟩ := hK j t' c hj hc
      simp only [if_pos hji]
      refine ⟨q1.same (fun k hk1 hk2 => ?_), q2, by omega, fun g hgv => ?_⟩
      · rw [hg.block k (by rw [hs1]; omega) (fun e => by have := q4 k (.inr e.symm); omega), hsame k (by omega)]
      · rcases hgv with hgv | hgv
        · exact q4 g (.inl hgv)
        · rcases hf with e | e
          · exact q4 g (.inr (by rw [← e]; exact hgv))
          · rw [e] at hgv; simp at hgv; omega
    · obtain rfl : j = q := by
        have := (List.getElem?_eq_some_iff.1 hc).1
        simp at this; omega
      rw [ht] at hj
      cases hj
      rw [List.getElem?_append_right (by omega), hKl] at hc
      simp at hc
      subst hc
      simp only [if_neg (Nat.lt_irrefl j)]
      refine ⟨hL.same (fun k hk1 hk2 => ?_), hZ, by omega, fun g hgv => ?_⟩
      · rw [hg.block k (by rw [hs1]; omega) (fun e => by have := (owns_lt ho0 k e.symm).2; omega), Below.heap_alloc _ _ _ (by omega)]
      · rcases hgv with hgv | hgv
        · have := (owns_lt hn0 g hgv).2; omega
        · rcases hf with e | e
          · have := (owns_lt ho0 g (by rw [← e]; exact hgv)).2; omega
          · rw [e] at hgv; simp at hgv; omega
  · intro i j hij hj
    by_cases hjq : j < q
    · simp only [if_pos hjq, if_pos (show i < q by omega)]; exact hdis i j hij hjq
    · obtain rfl : j = q := by omega
      simp only [if_neg (Nat.lt_irrefl j), if_pos hij]
      have hqk := (List.getElem?_eq_some_iff.1 ht).1
      exact (hK i ks[i] Ks[i] (List.getElem?_eq_getElem (by omega)) (List.getElem?_eq_getElem (by omega))).2.2.1
  · intro g hgk e
    rcases hf with e2 | e2
    · exact hne g (by rw [← e2]; exact hgk) e
    · rw [e2] at hgk
      have := (owns_lt hn0 g e).2
      simp at hgk
      omega
/-- The clone is whole. -/
theorem cl_end {Z lo : Nat} {w : World} {k : Int} {x : Bool} {d : ByteArray} {ns : List ByteArray} {ks : List Tr} {vd vn vk : Value} (h : Cl Z w vn vk ns ks ns.length ks.length) (hd : w.ownsRow lo 5 1 vd d.size (byteVals d)) (hdZ : ∀ g, vd.ownBlock = some g → g < Z) (hlo : lo ≤ Z) : Own w lo w.heap.size (.mk k x d ns ks) [.int .i64 k, .bool x, vd, vn, vk] := by
  obtain ⟨hn, ⟨Ks, L, H, hKl, hK5, ho, hK, hdis⟩, hne⟩ := h
  rw [List.take_length] at hn
  refine .mk lo w.heap.size k x d ns ks vd vn vk Ks L H hKl hd (owns_same hn (fun _ _ => rfl) (fun _ _ h => by omega)) (owns_same ho (fun _ _ => rfl) (fun _ _ h => by omega)) ?_ ?_ ?_ (fun i t c h1 h2 => (hK i t c h1 h2).1) (fun i hi => ?_) hdis
  · rintro g (h | h | h)
    · exact (owns_lt hd g h).2
    · exact (owns_lt hn g h).2
    · exact (owns_lt ho g h).2
  · intro g hg
    refine ⟨fun e => ?_, hne g hg⟩
    have h1 := hdZ g e
    have h2 := (owns_lt ho g hg).1
    omega
  · intro g hg e
    have h1 := hdZ g e
    have h2 := (owns_lt hn g hg).1
    omega
  · obtain ⟨_, h2, h3, h4⟩ := hK i ks[i] Ks[i] (List.getElem?_eq_getElem hi) (List.getElem?_eq_getElem (by omega))
    refine ⟨by omega, h3, fun g hg => ?_⟩
    rcases hg with hg | hg
    · have := hdZ g hg; omega
    · exact h4 g hg
end Go.Proofs.YthfjofmfiklegabDoor
/- slices.Grow of nothing. -/
namespace Go.Proofs.YthfjofmfiklegabDoor
open Go.RowKit
def app23z (ty : TypeId) (args : Array Value) : Sem Value := Builtin.append_ #[23, 3] ty args
@[go_sem ↓] theorem append_app23z (ty : TypeId) (args : Array Value) : Builtin.append_ #[23, 3] ty args = app23z ty args := rfl
set_option maxRecDepth 20000 in
set_option maxHeartbeats 1000000 in
/-- slices.Grow of nothing: nothing, or a new row with room. -/
theorem grow23_nil (n : Nat) (w : World) (hn : n ≤ 1000000) :
    Calls Tryd.prog 25 #[.slice none 0 0, .int .i64 (n : Int)] w fun e w' => ∃ a c, e = .returned (.slice a 0 c) ∧ w'.ownsRow w.heap.size 9 1 (.slice a 0 c) 0 [] ∧ Below w.heap.size w w' ∧ n ≤ c ∧ (∀ g, (Value.slice a 0 c).ownBlock = some g → g < w'.heap.size) := by
  by_cases h0 : n = 0
  · subst h0
    go_enter Tryd.func25, Tryd.ntmps25
    go_wp2_with fail
    go_ret
    exact ⟨none, 0, rfl, ⟨by simp, .inl ⟨rfl, rfl⟩⟩, Below.refl _ _, Nat.le_refl _, fun g hg => by simp [Value.ownBlock] at hg⟩
  · obtain ⟨i, hi, hz, hsz, hby⟩ := info9
    have hz1 : (.string ⟨#[]⟩ : Value).cells.size = 1 := rfl
    have happ := fun ty => Lib.run_append_grow_zeros (P := Tryd.prog) w 23 3 ty 9 i (.string ⟨#[]⟩) .i64 .i64 Tryd.underlying23 Tryd.underlying3 hi hz none 0 0 [] (run_firstCells_none _ _ _ _ _) n (by omega) (by omega) (by omega) (by omega) (by rw [hby]; omega) (growslice_fits (by omega) (by rw [hby]; omega))
    have hge := grownCap_ge w (0 + n) 0 9
    have hle : grownCap w (0 + n) 0 9 ≤ maxLen := grownCap_le_maxLen _ _ _ _ (by simp only [maxLen]; omega)
    have happ' : ∀ ty, (app23z ty #[.slice none 0 0, .int .i64 (n : Int)]).run Tryd.prog w = _ := happ
    simp only [Nat.zero_add] at happ' hge hle
    obtain ⟨G, hG⟩ : ∃ G, G = grownCap w n 0 9 := ⟨_, rfl⟩
    rw [← hG] at happ' hge hle
    obtain ⟨C, hC⟩ : ∃ C, C = ([].toArray ++ Builtin.zeroCells (.string ⟨#[]⟩ : Value).cells n ++ Builtin.zeroCells (.string ⟨#[]⟩ : Value).cells (G - n) : Array Value) := ⟨_, rfl⟩
    rw [← hC] at happ'
    have HC : Hid (C.size = G * 1) := by
      show C.size = _
      rw [hC, Array.size_append, Array.size_append, size_zeroCells, size_zeroCells, hz1]
      simp
      omega
    clear hC hG happ hi hz hsz hby hz1
    have hn1 : ¬ ((n : Int) < 0) := by omega
    have hn2 : (0 : Int) < (n : Int) := by omega
    go_enter Tryd.func25, Tryd.ntmps25
    go_wp2_with fail
    go_ret
    refine ⟨_, _, rfl, ⟨by simp, .inr ⟨w.heap.size, G, C, rfl, Nat.le_refl _, ?_, Nat.zero_le _, hle, unhide HC, by simp⟩⟩, ?_, by omega, fun g hg => ?_⟩
    · show (w.heap.push _)[w.heap.size]? = _; rw [Array.getElem?_push, if_pos rfl]
    · exact ((Below.refl _ w).alloc (Nat.le_refl _) _).drew
    · simp [Value.ownBlock] at hg; subst hg; simp
def app24z (ty : TypeId) (args : Array Value) : Sem Value := Builtin.append_ #[24, 3] ty args
@[go_sem ↓] theorem append_app24z (ty : TypeId) (args : Array Value) : Builtin.append_ #[24, 3] ty args = app24z ty args := rfl
set_option maxRecDepth 20000 in
set_option maxHeartbeats 1000000 in
/-- slices.Grow of nothing: nothing, or a new row with room. -/
theorem grow24_nil (n : Nat) (w : World) (hn : n ≤ 1000000) :
    Calls Tryd.prog 26 #[.slice none 0 0, .int .i64 (n : Int)] w fun e w' => ∃ a c, e = .returned (.slice a 0 c) ∧ w'.ownsRow w.heap.size 26 5 (.slice a 0 c) 0 [] ∧ Below w.heap.size w w' ∧ n ≤ c ∧ (∀ g, (Value.slice a 0 c).ownBlock = some g → g < w'.heap.size) := by
  by_cases h0 : n = 0
  · subst h0
    go_enter Tryd.func26, Tryd.ntmps26
    go_wp2_with fail
    go_ret
    exact ⟨none, 0, rfl, ⟨by simp, .inl ⟨rfl, rfl⟩⟩, Below.refl _ _, Nat.le_refl _, fun g hg => by simp [Value.ownBlock] at hg⟩
  · obtain ⟨i, hi, hz, hsz, hby⟩ := info26
    have hz1 : (.agg #[.int .i64 0, .bool false, .slice none 0 0, .slice none 0 0, .slice none 0 0] : Value).cells.size = 5 := rfl
    have happ := fun ty => Lib.run_append_grow_zeros (P := Tryd.prog) w 24 3 ty 26 i (.agg #[.int .i64 0, .bool false, .slice none 0 0, .slice none 0 0, .slice none 0 0]) .i64 .i64 Tryd.underlying24 Tryd.underlying3 hi hz none 0 0 [] (run_firstCells_none _ _ _ _ _) n (by omega) (by omega) (by omega) (by omega) (by rw [hby]; omega) (growslice_fits (by omega) (by rw [hby]; omega))
    have hge := grownCap_ge w (0 + n) 0 26
    have hle : grownCap w (0 + n) 0 26 ≤ maxLen := grownCap_le_maxLen _ _ _ _ (by simp only [maxLen]; omega)
    have happ' : ∀ ty, (app24z ty #[.slice none 0 0, .int .i64 (n : Int)]).run Tryd.prog w = _ := happ
    simp only [Nat.zero_add] at happ' hge hle
    obtain ⟨G, hG⟩ : ∃ G, G = grownCap w n 0 26 := ⟨_, rfl⟩
    rw [← hG] at happ' hge hle
    obtain ⟨C, hC⟩ : ∃ C, C = ([].toArray ++ Builtin.zeroCells (.agg #[.int .i64 0, .bool false, .slice none 0 0, .slice none 0 0, .slice none 0 0] : Value).cells n ++ Builtin.zeroCells (.agg #[.int .i64 0, .bool false, .slice none 0 0, .slice none 0 0, .slice none 0 0] : Value).cells (G - n) : Array Value) := ⟨_, rfl⟩
    rw [← hC] at happ'
    have HC : Hid (C.size = G * 5) := by
      show C.size = _
      rw [hC, Array.size_append, Array.size_append, size_zeroCells, size_zeroCells, hz1]
      simp
      omega
    clear hC hG happ hi hz hsz hby hz1
    have hn1 : ¬ ((n : Int) < 0) := by omega
    have hn2 : (0 : Int) < (n : Int) := by omega
    go_enter Tryd.func26, Tryd.ntmps26
    go_wp2_with fail
    go_ret
    refine ⟨_, _, rfl, ⟨by simp, .inr ⟨w.heap.size, G, C, rfl, Nat.le_refl _, ?_, Nat.zero_le _, hle, unhide HC, by simp⟩⟩, ?_, by omega, fun g hg => ?_⟩
    · show (w.heap.push _)[w.heap.size]? = _; rw [Array.getElem?_push, if_pos rfl]
    · exact ((Below.refl _ w).alloc (Nat.le_refl _) _).drew
    · simp [Value.ownBlock] at hg; subst hg; simp
end Go.Proofs.YthfjofmfiklegabDoor
/- Clone, in the document's own answer. -/
namespace Go.Proofs.YthfjofmfiklegabDoor
open Go.RowKit
end Go.Proofs.YthfjofmfiklegabDoor
/- clone, in the code: a tree in memory of its own. -/
namespace Go.Proofs.YthfjofmfiklegabDoor
open Go.RowKit
theorem sclone_any (s : ByteArray) (w : World) (hlim : s.size ≤ 281474976710656) :
    Calls Tryd.prog 27 #[.string s] w fun e w' => e = .returned (.string s) ∧ Below w.heap.size w w' := by
  go_enter Tryd.func27, Tryd.ntmps27
  go_wp2_with fail
  refine (Tryd.stringslite_Clone s w hlim).mono ?_
  rintro e w1 ⟨rfl, hb⟩
  go_wp2_with fail
  go_ret
  exact ⟨rfl, hb⟩
/-- Onto nothing. -/
theorem onto22 (w : World) (lo hi : Nat) (a : Option Addr) (m c : Nat) (ys : List Value) (hr : Row lo hi w (.slice a m c) m ys) (hl : ys.length = m) (h1 : ∀ u ∈ ys, u.oneCell' = true) (hmax : m ≤ 100000000) :
    ∃ a1 c1 w1, (∀ ty, (app22 ty #[.slice none 0 0, .slice a m c]).run Tryd.prog w = .ok (.slice a1 m c1) w1) ∧ Below w.heap.size w w1 ∧ w1.ownsRow w.heap.size 5 1 (.slice a1 m c1) m ys := by
  obtain ⟨v1, w1, happ, ho, hg, _⟩ := app22_own w w.heap.size lo hi (.slice none 0 0) 0 [] a m c ys ⟨by simp, .inl ⟨rfl, rfl⟩⟩ hr hl h1 (by omega) (Nat.le_refl _)
  rw [Nat.zero_add, List.nil_append] at ho
  obtain ⟨a1, c1, rfl, _⟩ := owns_slice ho
  exact ⟨a1, c1, w1, happ, (Below.refl _ _).grown hg (Nat.le_refl _) (fun k hk => by simp [Value.ownBlock] at hk), ho⟩
/-- As many names as kids, everywhere. -/
inductive Ev : Tr → Prop
  | mk (k : Int) (x : Bool) (d : ByteArray) (ns : List ByteArray) (ks : List Tr) (h : ns.length = ks.length) (hk : ∀ t ∈ ks, Ev t) : Ev (.mk k x d ns ks)
theorem below_drew' {B : Nat} {w w1 : World} (h : Below B w.drew w1) : Below B w w1 := ⟨h.os, h.tape, h.output, h.size, h.block⟩
/-- What stands in a clone under way. -/
structure ClW (w wr : World) (Z : Nat) (k : Int) (x : Bool) (d : ByteArray) (ns : List ByteArray) (ks : List Tr) (t1 t2 t3 v1 vn vk : Value) (p q : Nat) : Prop where
  old : Below w.heap.size w wr
  bt : Bx wr w.heap.size (.int .i64 k) (.bool x) t1 t2 t3
  br : Bx wr (w.heap.size + 1) (.int .i64 0) (.bool false) (.slice none 0 0) (.slice none 0 0) (.slice none 0 0)
  bc : Bx wr (w.heap.size + 1 + 1) (.int .i64 k) (.bool x) v1 vn vk
  dat : wr.ownsRow (w.heap.size + 3) 5 1 v1 d.size (byteVals d)
  datZ : ∀ g, v1.ownBlock = some g → g < Z
  cl : Cl Z wr vn vk ns ks p q
  z1 : w.heap.size + 3 ≤ Z
  z2 : Z ≤ wr.heap.size
theorem ClW.name {w wr w2 : World} {Z : Nat} {k : Int} {x : Bool} {d : ByteArray} {ns : List ByteArray} {ks : List Tr} {t1 t2 t3 v1 vn vk vn' : Value} {p p' q : Nat} (h : ClW w wr Z k x d ns ks t1 t2 t3 v1 vn vk p q) (hb : Below Z wr w2) (hc : Cl Z w2 vn' vk ns ks p' q) :
    ClW w (w2.setCell ⟨w.heap.size + 1 + 1, 3, none⟩ vn') Z k x d ns ks t1 t2 t3 v1 vn' vk p' q := by
  obtain ⟨h1, h2, h3, h4, h5, h6, h7, h8, h9⟩ := h
  have hz := hb.size
  refine ⟨(h1.trans (hb.mono (by omega))).setCell (by simp; omega) _, (h2.kept hb (by omega)).of (set_other _ _ _ _ _ (by omega)), (h3.kept hb (by omega)).of (set_other _ _ _ _ _ (by omega)), (h4.kept hb (by omega)).set3 _, ?_, h6, hc.same (fun k hk _ => set_other _ _ _ _ _ (by omega)) (by simp), h8, by simp; omega⟩
  exact owns_same h5 (fun g hg => by rw [set_other _ _ _ _ _ (by have := (owns_lt h5 g hg).1; omega), hb.block g (h6 g hg)]) (fun _ _ h => h)
theorem ClW.kid {w wr w2 : World} {Z : Nat} {k : Int} {x : Bool} {d : ByteArray} {ns : List ByteArray} {ks : List Tr} {t1 t2 t3 v1 vn vk vk' : Value} {p q q' : Nat} (h : ClW w wr Z k x d ns ks t1 t2 t3 v1 vn vk p q) (hb : Below Z wr w2) (hc : Cl Z w2 vn vk' ns ks p q') :
    ClW w (w2.setCell ⟨w.heap.size + 1 + 1, 4, none⟩ vk') Z k x d ns ks t1 t2 t3 v1 vn vk' p q' := by
  obtain ⟨h1, h2, h3, h4, h5, h6, h7, h8, h9⟩ := h
  have hz := hb.size
  refine ⟨(h1.trans (hb.mono (by omega))).setCell (by simp; omega) _, (h2.kept hb (by omega)).of (set_other _ _ _ _ _ (by omega)), (h3.kept hb (by omega)).of (set_other _ _ _ _ _ (by omega)), (h4.kept hb (by omega)).set4 _, ?_, h6, hc.same (fun k hk _ => set_other _ _ _ _ _ (by omega)) (by simp), h8, by simp; omega⟩
  exact owns_same h5 (fun g hg => by rw [set_other _ _ _ _ _ (by have := (owns_lt h5 g hg).1; omega), hb.block g (h6 g hg)]) (fun _ _ h => h)
theorem ClW.drew {w wr : World} {Z : Nat} {k : Int} {x : Bool} {d : ByteArray} {ns : List ByteArray} {ks : List Tr} {t1 t2 t3 v1 vn vk : Value} {p q : Nat} (h : ClW w wr Z k x d ns ks t1 t2 t3 v1 vn vk p q) : ClW w wr.drew Z k x d ns ks t1 t2 t3 v1 vn vk p q := by
  obtain ⟨h1, h2, h3, h4, h5, h6, h7, h8, h9⟩ := h
  exact ⟨h1.drew, h2, h3, h4, h5, h6, h7.same (fun _ _ _ => rfl) (Nat.le_refl _), h8, h9⟩
set_option maxRecDepth 20000 in
set_option maxHeartbeats 2000000 in
theorem clone_any (T : Tr) : ∀ (lo hi : Nat) (cs : List Value) (w : World), Lies lo hi w T cs → wt T ≤ 100000 → hi ≤ w.heap.size → Ev T →
    Calls Tryd.prog 13 #[.agg cs.toArray] w fun e w' => ∃ cs', e = .returned (.agg cs'.toArray) ∧ Below w.heap.size w w' ∧ Own w' w.heap.size w'.heap.size T cs' := by
  induction T using Tr.ind with
  | h k x d ns ks ih =>
  intro lo hi cs w hL hW hhi hev
  have hSm := small_of hW
  obtain ⟨hlen, hevk⟩ : ns.length = ks.length ∧ ∀ t ∈ ks, Ev t := by cases hev with | mk _ _ _ _ _ h1 h2 => exact ⟨h1, h2⟩
  clear hev
  cases hL with
  | mk _ _ _ _ _ vd vn vk Ks hl hd hn hk hK =>
  obtain ⟨ad, cd, rfl, hcd⟩ := hd.slice
  obtain ⟨an, cn, rfl, hcn⟩ := hn.slice
  obtain ⟨ak, ck, rfl, hck⟩ := hk.slice
  have hW3 : ∃ w3, w3 = ((w.alloc (.cells #[.int .i64 k, .bool x, .slice ad d.size cd, .slice an ns.length cn, .slice ak ks.length ck] 26)).alloc (.cells #[.int .i64 0, .bool false, .slice none 0 0, .slice none 0 0, .slice none 0 0] 26)).alloc (.cells #[.int .i64 k, .bool x, .slice none 0 0, .slice none 0 0, .slice none 0 0] 26) := ⟨_, rfl⟩
  obtain ⟨w3, hw3⟩ := hW3
  have hs3 : w3.heap.size = w.heap.size + 3 := by rw [hw3]; simp
  have hb3 : Below w.heap.size w w3 := by rw [hw3]; exact (((Below.refl _ _).alloc (Nat.le_refl _) _).alloc (by simp) _).alloc (by simp; omega) _
  have hbt : Bx w3 w.heap.size (.int .i64 k) (.bool x) (.slice ad d.size cd) (.slice an ns.length cn) (.slice ak ks.length ck) := by
    rw [hw3]
    exact (bx_new w _ _ _ _ _).kept (((Below.refl (w.heap.size + 1) _).alloc (by simp) _).alloc (by simp) _) (by omega)
  have hbr : Bx w3 (w.heap.size + 1) (.int .i64 0) (.bool false) (.slice none 0 0) (.slice none 0 0) (.slice none 0 0) := by
    rw [hw3]
    have := (bx_new (w.alloc (.cells #[.int .i64 k, .bool x, .slice ad d.size cd, .slice an ns.length cn, .slice ak ks.length ck] 26)) (.int .i64 0) (.bool false) (.slice none 0 0) (.slice none 0 0) (.slice none 0 0)).kept ((Below.refl (w.heap.size + 1 + 1) _).alloc (by simp) (.cells #[.int .i64 k, .bool x, .slice none 0 0, .slice none 0 0, .slice none 0 0] 26)) (by simp)
    simpa using this
  have hbc : Bx w3 (w.heap.size + 1 + 1) (.int .i64 k) (.bool x) (.slice none 0 0) (.slice none 0 0) (.slice none 0 0) := by
    rw [hw3]
    have := bx_new ((w.alloc (.cells #[.int .i64 k, .bool x, .slice ad d.size cd, .slice an ns.length cn, .slice ak ks.length ck] 26)).alloc (.cells #[.int .i64 0, .bool false, .slice none 0 0, .slice none 0 0, .slice none 0 0] 26)) (.int .i64 k) (.bool x) (.slice none 0 0) (.slice none 0 0) (.slice none 0 0)
    simpa using this
  obtain ⟨a1, c1, w4, happ1, hb4, ho4⟩ := onto22 w3 lo hi ad d.size cd (byteVals d) (hd.below hb3 hhi) (byteVals_length d) (one_bytes d) (by have := hSm.d; omega)
  have hs4 := hb4.size
  obtain ⟨c0, c1', c2, c3, c4⟩ := (hbc.kept hb4 (by omega)).cells
  have f2 := (hbc.kept hb4 (by omega)).fr 2
  obtain ⟨t0, t1, t2, t3, t4⟩ := (hbt.kept hb4 (by omega)).cells
  rw [hw3] at happ1
  obtain ⟨N, hN⟩ : ∃ N, ns.length = N := ⟨_, rfl⟩
  have hNk : ks.length = N := by rw [← hlen]; exact hN
  have hN1 : N ≤ 100000 := by rw [← hN]; exact hSm.n
  rw [hN] at hn hcn happ1 t3
  rw [hNk] at hk hck happ1 t4 hl
  have HR := hide (And.intro hn (And.intro hk (And.intro hl hK)))
  have HSm := hide hSm
  have HN := hide (And.intro hN hNk)
  have HS := hide (And.intro hs3 (And.intro hs4 (And.intro (hb3.trans (hb4.mono (by omega))) (And.intro (hbt.kept hb4 (by omega)) (And.intro (hbr.kept hb4 (by omega)) (And.intro (hbc.kept hb4 (by omega)) ho4))))))
  rw [hN, hNk] at HS
  have hl4 : w.heap.size + 1 + 1 < w4.heap.size := by omega
  have hl5 : w.heap.size < w4.heap.size := by omega
  have HG1 := hide (fun w => grow23_nil N w (by omega))
  have HG2 := hide (fun w => grow24_nil N w (by omega))
  rw [hN, hNk]
  clear hN hNk hlen hn hk hl hK hSm hs3 hs4 hb3 hb4 hbt hbr hbc ho4 hd hw3 hcd
  go_enter Tryd.func13, Tryd.ntmps13
  go_wp2_with fail
  obtain ⟨hs3, hs4, hold4, hbt4, hbr4, hbc4, ho4⟩ := unhide HS
  clear HS happ1 c0 c1' c2 c3 c4 f2 t0 t1 t2 t3 t4
  obtain ⟨wA, hwA⟩ : ∃ wA, wA = w4.setCell ⟨w.heap.size + 1 + 1, 2, none⟩ (.slice a1 d.size c1) := ⟨_, rfl⟩
  have hsA : wA.heap.size = w4.heap.size := by rw [hwA]; simp
  have holdA : Below w.heap.size w wA := by rw [hwA]; exact hold4.setCell (by simp; omega) _
  have hbtA : Bx wA w.heap.size (.int .i64 k) (.bool x) (.slice ad d.size cd) (.slice an N cn) (.slice ak N ck) := by rw [hwA]; exact hbt4.of (set_other _ _ _ _ _ (by omega))
  have hbrA : Bx wA (w.heap.size + 1) (.int .i64 0) (.bool false) (.slice none 0 0) (.slice none 0 0) (.slice none 0 0) := by rw [hwA]; exact hbr4.of (set_other _ _ _ _ _ (by omega))
  have hbcA : Bx wA (w.heap.size + 1 + 1) (.int .i64 k) (.bool x) (.slice a1 d.size c1) (.slice none 0 0) (.slice none 0 0) := by rw [hwA]; exact hbc4.set2 _
  have hoA : wA.ownsRow (w.heap.size + 3) 5 1 (.slice a1 d.size c1) d.size (byteVals d) := by rw [hwA]; exact owns_same ho4 (fun g hg => set_other _ _ _ _ _ (by have := (owns_lt ho4 g hg).1; omega)) (fun _ _ h => by omega)
  rw [← hwA]
  clear hwA hold4 hbt4 hbr4 hbc4 ho4
  refine (unhide HG1 _).mono ?_
  rintro e w5 ⟨a2, c2, rfl, ho5, hb5, hcap5, _⟩
  have hs5 := hb5.size
  obtain ⟨c0, c1', c2', c3, c4⟩ := (hbcA.kept hb5 (by omega)).cells
  obtain ⟨t0, t1, t2, t3, t4⟩ := (hbtA.kept hb5 (by omega)).cells
  have f3 := (hbcA.kept hb5 (by omega)).fr 3
  have hl6 : w.heap.size + 1 + 1 < w5.heap.size := by omega
  have hl7 : w.heap.size < w5.heap.size := by omega
  have HS5 := hide (And.intro hs5 (And.intro ho5 hb5))
  have HA := hide (And.intro hs3 (And.intro hs4 (And.intro hsA (And.intro holdA (And.intro hbtA (And.intro hbrA (And.intro hbcA hoA)))))))
  clear ho5 hb5 hs5 hs3 hs4 hsA holdA hbtA hbrA hbcA hoA
  go_wp2_with fail
  obtain ⟨wB, hwB⟩ : ∃ wB, wB = w5.setCell ⟨w.heap.size + 1 + 1, 3, none⟩ (.slice a2 0 c2) := ⟨_, rfl⟩
  rw [← hwB]
  have hsB : wB.heap.size = w5.heap.size := by rw [hwB]; simp
  refine (unhide HG2 _).mono ?_
  rintro e w6 ⟨a3, c3', rfl, ho6, hb6, hcap6, _⟩
  obtain ⟨hs3, hs4, hsA, holdA, hbtA, hbrA, hbcA, hoA⟩ := unhide HA
  obtain ⟨hs5, ho5, hb5⟩ := unhide HS5
  have hs6 := hb6.size
  have hbcB : Bx wB (w.heap.size + 1 + 1) (.int .i64 k) (.bool x) (.slice a1 d.size c1) (.slice a2 0 c2) (.slice none 0 0) := by rw [hwB]; exact (hbcA.kept hb5 (by omega)).set3 _
  have hbtB : Bx wB w.heap.size (.int .i64 k) (.bool x) (.slice ad d.size cd) (.slice an N cn) (.slice ak N ck) := by rw [hwB]; exact (hbtA.kept hb5 (by omega)).of (set_other _ _ _ _ _ (by omega))
  have hbrB : Bx wB (w.heap.size + 1) (.int .i64 0) (.bool false) (.slice none 0 0) (.slice none 0 0) (.slice none 0 0) := by rw [hwB]; exact (hbrA.kept hb5 (by omega)).of (set_other _ _ _ _ _ (by omega))
  have holdB : Below w.heap.size w wB := by rw [hwB]; exact (holdA.trans (hb5.mono (by omega))).setCell (by simp; omega) _
  have hoB : wB.ownsRow (w.heap.size + 3) 5 1 (.slice a1 d.size c1) d.size (byteVals d) := by rw [hwB]; exact owns_same hoA (fun g hg => by rw [set_other _ _ _ _ _ (by have := (owns_lt hoA g hg).1; omega), hb5.block g (owns_lt hoA g hg).2]) (fun _ _ h => h)
  have hnB : wB.ownsRow wA.heap.size 9 1 (.slice a2 0 c2) 0 [] := by rw [hwB]; exact owns_same ho5 (fun g hg => set_other _ _ _ _ _ (by have := (owns_lt ho5 g hg).1; omega)) (fun _ _ h => h)
  have hCl : Cl wA.heap.size w6 (.slice a2 0 c2) (.slice a3 0 c3') ns ks 0 0 := by
    refine ⟨?_, ⟨[], fun _ => 0, fun _ => 0, rfl, fun c hc => by simp at hc, owns_same ho6 (fun _ _ => rfl) (fun _ _ h => by omega), fun j t c _ hc => by simp at hc, fun i j _ h => by omega⟩, fun g hg e => ?_⟩
    · exact owns_same hnB (fun g hg => hb6.block g (owns_lt hnB g hg).2) (fun _ _ h => h)
    · have h1 := (owns_lt ho6 g hg).1
      have h2 := (owns_lt hnB g e).2
      omega
  have HC0 : Hid (ClW w (w6.setCell ⟨w.heap.size + 1 + 1, 4, none⟩ (.slice a3 0 c3')) wA.heap.size k x d ns ks (.slice ad d.size cd) (.slice an N cn) (.slice ak N ck) (.slice a1 d.size c1) (.slice a2 0 c2) (.slice a3 0 c3') 0 0) := by
    refine ⟨(holdB.trans (hb6.mono (by omega))).setCell (by simp; omega) _, (hbtB.kept hb6 (by omega)).of (set_other _ _ _ _ _ (by omega)), (hbrB.kept hb6 (by omega)).of (set_other _ _ _ _ _ (by omega)), (hbcB.kept hb6 (by omega)).set4 _, ?_, fun g hg => (owns_lt hoA g hg).2, hCl.same (fun k hk _ => set_other _ _ _ _ _ (by omega)) (by simp), by omega, by simp; omega⟩
    exact owns_same hoB (fun g hg => by rw [set_other _ _ _ _ _ (by have := (owns_lt hoB g hg).1; omega), hb6.block g (owns_lt hoB g hg).2]) (fun _ _ h => h)
  obtain ⟨e0, e1, e2, e3, e4⟩ := (hbcB.kept hb6 (by omega)).cells
  obtain ⟨u0, u1, u2, u3, u4⟩ := (hbtB.kept hb6 (by omega)).cells
  have f4 := (hbcB.kept hb6 (by omega)).fr 4
  clear hs3 hs4 hsA holdA hbtA hbrA hbcA hoA hs5 ho5 hb5 hs6 hbcB hbtB hbrB holdB hoB hnB hCl ho6 hb6 HA HS5 HG1 HG2 hwB hsB c0 c1' c2' c3 c4 t0 t1 t2 t3 t4 f3 hcap5 hcap6
  go_wp2_with fail
  clear e0 e1 e2 e3 e4 u0 u1 u2 u3 u4 f4 hl4 hl5 hl6 hl7
  obtain ⟨Z, hZ⟩ : ∃ Z, Z = wA.heap.size := ⟨_, rfl⟩
  rw [← hZ] at HC0
  clear hZ
  go_loopw [34] (fun vi wr => ∃ (i : Nat) (av av' : Option Addr) (cv cv' : Nat), i ≤ N ∧ vi = .int .i64 (i : Int) ∧ ClW w wr Z k x d ns ks (.slice ad d.size cd) (.slice an N cn) (.slice ak N ck) (.slice a1 d.size c1) (.slice av i cv) (.slice av' i cv') i i) (fun vi _ => N - (intOf vi).toNat)
  case atStart => exact ⟨0, _, _, _, _, by omega, rfl, unhide HC0⟩
  case round =>
    clear HC0
    obtain ⟨i, av, av', cv, cv', hiN, rfl, hW⟩ := hrel
    obtain ⟨y0, y1, y2, y3, y4⟩ := hW.bt.cells
    obtain ⟨x0, x1, x2, x3, x4⟩ := hW.bc.cells
    have hz2 := hW.z2
    have hz1 := hW.z1
    have hl4 : w.heap.size + 1 + 1 < wr.heap.size := by omega
    have hl5 : w.heap.size < wr.heap.size := by omega
    by_cases hlt : i < N
    · have hn1 : i < ns.length := by rw [(unhide HN).1]; exact hlt
      have hk1 : i < ks.length := by rw [(unhide HN).2]; exact hlt
      obtain ⟨g, o, rfl, hg1, hg2, hcell⟩ := (unhide HR).1.at (by omega)
      obtain ⟨g', o', rfl, hg1', hg2', hcell'⟩ := (unhide HR).2.1.at (by omega)
      obtain ⟨hl, hK⟩ := (unhide HR).2.2
      have hci : wr.cell? ⟨g, o + i, none⟩ = some (.string ns[i]) := by rw [hW.old.cell (p := ⟨g, o + i, none⟩) (show g < w.heap.size by omega)]; exact hcell i _ (by simp [List.getElem?_eq_getElem hn1])
      have HSc := hide (fun w => sclone_any ns[i] w (by have := (unhide HSm).s ns[i] (List.getElem_mem hn1); omega))
      have HTn : Hid (ns[i]? = some ns[i]) := List.getElem?_eq_getElem hn1
      have HTk : Hid (ks[i]? = some ks[i]) := List.getElem?_eq_getElem hk1
      have HW := hide hW
      have HKi : Hid (∀ w' : World, Below w.heap.size w w' → ∃ k' x' b1 n1 d1 b2 n2 d2 b3 n3 d3, Lies lo hi w' ks[i] [.int .i64 k', .bool x', .slice b1 n1 d1, .slice b2 n2 d2, .slice b3 n3 d3] ∧ w'.cell? ⟨g', o' + i * 5, none⟩ = some (.int .i64 k') ∧ w'.cell? ⟨g', o' + i * 5 + 1, none⟩ = some (.bool x') ∧ w'.cell? ⟨g', o' + i * 5 + 2, none⟩ = some (.slice b1 n1 d1) ∧ w'.cell? ⟨g', o' + i * 5 + 3, none⟩ = some (.slice b2 n2 d2) ∧ w'.cell? ⟨g', o' + i * 5 + 4, none⟩ = some (.slice b3 n3 d3)) := fun w' hw' =>
        kid_sl (hl.trans (unhide HN).2.symm) (fun j u hj => by rw [hw'.cell (p := ⟨g', o' + j, none⟩) (show g' < w.heap.size by omega)]; exact hcell' j u hj) (fun i t c h1 h2 => (hK i t c h1 h2).kept hw' hhi) i hk1
      have HI : Hid (∀ (w' : World) (cs : List Value), Lies lo hi w' ks[i] cs → hi ≤ w'.heap.size → _) := fun w' cs h1 h2 => ih ks[i] (List.getElem_mem hk1) lo hi cs w' h1 ((unhide HSm).t _ (List.getElem_mem hk1)) h2 (hevk _ (List.getElem_mem hk1))
      clear hcell hcell' hl hK hW
      generalize ns[i] = s at *
      generalize ks[i] = t at *
      clear hn1 hk1
      go_wp2_with fail
      go_region_law (go_simp; refine (unhide HSc wr.drew).mono ?_; rintro e w7 ⟨rfl, hb7⟩; obtain ⟨a7, c7, w8, happ7, hCl7, hb8, hs8⟩ := cl_name s (unhide HW).cl (below_drew' hb7) (unhide HTn) (by omega) hz2; have hl7 : w.heap.size + 1 + 1 < w7.heap.size := Nat.lt_of_lt_of_le hl4 hb7.size; obtain ⟨x0', x1', x2', x3', x4'⟩ := ((unhide HW).bc.kept (below_drew' hb7) hl4).cells; obtain ⟨q0, q1, q2, q3, q4⟩ := ((unhide HW).bc.kept hb8 (by omega)).cells; have f8 := ((unhide HW).bc.kept hb8 (by omega)).fr 3)
      all_goals
        have HW8 := hide ((unhide HW).name hb8 hCl7)
        clear happ7 hCl7 hb8 hs8 x0' x1' x2' x3' x4' q0 q1 q2 q3 q4 f8 hb7 hl7 y0 y1 y2 y3 y4 x0 x1 x2 x3 x4 hz2 hz1 hl4 hl5 hci HSc HTn
        generalize w8.setCell ⟨w.heap.size + 1 + 1, 3, none⟩ (.slice a7 (i + 1) c7) = w9 at *
        obtain ⟨y0, y1, y2, y3, y4⟩ := (unhide HW8).bt.cells
        obtain ⟨x0, x1, x2, x3, x4⟩ := (unhide HW8).bc.cells
        have hz2 := (unhide HW8).z2
        have hz1 := (unhide HW8).z1
        have hl4 : w.heap.size + 1 + 1 < w9.heap.size := by omega
        have hl5 : w.heap.size < w9.heap.size := by omega
        obtain ⟨k', x', b1, n1, d1, b2, n2, d2, b3, n3, d3, hLi, m0, m1, m2, m3, m4⟩ := unhide HKi w9 (unhide HW8).old
        have HLi := hide hLi
        clear hLi
        go_wp2_with fail
        go_region_law (go_simp; refine (unhide HI w9.drew _ ((unhide HLi).same (fun _ _ _ => rfl)) (Nat.le_trans hhi (Nat.le_of_lt hl5))).mono ?_; rintro e w10 ⟨cs10, rfl, hb10, hO10⟩; obtain ⟨k10, x10, r1, r2, r3, r4, r5, r6, r7, r8, r9, rfl⟩ := hO10.lies.form; obtain ⟨a11, c11, w11, happ11, hCl11, hb11, hs11⟩ := cl_kid (unhide HW8).cl (below_drew' hb10) hO10 (unhide HTk) (by omega) hz2; have hl10 : w.heap.size + 1 + 1 < w10.heap.size := Nat.lt_of_lt_of_le hl4 hb10.size; obtain ⟨x0', x1', x2', x3', x4'⟩ := ((unhide HW8).bc.kept (below_drew' hb10) hl4).cells; obtain ⟨q0, q1, q2, q3, q4⟩ := ((unhide HW8).bc.kept hb11 (by omega)).cells; have f11 := ((unhide HW8).bc.kept hb11 (by omega)).fr 4)
        all_goals
          have HW11 := hide ((unhide HW8).kid hb11 hCl11)
          clear happ11 hCl11 hb11 hs11 x0' x1' x2' x3' x4' q0 q1 q2 q3 q4 f11 hb10 hl10 hO10
          go_wp2_with fail
          go_roundw
          case rel => exact ⟨i + 1, _, _, _, _, by omega, by go_num, unhide HW11⟩
          case measure => simp [intOf]; omega
    · obtain rfl : i = N := by omega
      obtain ⟨r0, r1, r2, r3, r4⟩ := hW.br.cells
      have g0 := hW.br.fr 0
      have g1 := hW.br.fr 1
      have g2 := hW.br.fr 2
      have g3 := hW.br.fr 3
      have g4 := hW.br.fr 4
      have HW := hide hW
      clear hW
      go_wp2_with fail
      refine bodyPost_ret (v := .agg #[.int .i64 k, .bool x, .slice a1 d.size c1, .slice av i cv, .slice av' i cv']) (by simp [results, Tryd.results13, go_sem, r0, r1, r2, r3, r4]) rfl ⟨[.int .i64 k, .bool x, .slice a1 d.size c1, .slice av i cv, .slice av' i cv'], rfl, ?_, ?_⟩
      · exact ((((((unhide HW).old.setCell (by simp) _).setCell (by simp) _).setCell (by simp) _).setCell (by simp) _).setCell (by simp) _)
      · have hother : ∀ k', w.heap.size + 1 + 1 ≤ k' → (((((wr.setCell ⟨w.heap.size + 1, 0, none⟩ (.int .i64 k)).setCell ⟨w.heap.size + 1, 1, none⟩ (.bool x)).setCell ⟨w.heap.size + 1, 2, none⟩ (.slice a1 d.size c1)).setCell ⟨w.heap.size + 1, 3, none⟩ (.slice av i cv)).setCell ⟨w.heap.size + 1, 4, none⟩ (.slice av' i cv')).heap[k']? = wr.heap[k']? := fun k' hk' => by
          rw [set_other _ _ _ _ _ (by omega), set_other _ _ _ _ _ (by omega), set_other _ _ _ _ _ (by omega), set_other _ _ _ _ _ (by omega), set_other _ _ _ _ _ (by omega)]
        have hsz : (((((wr.setCell ⟨w.heap.size + 1, 0, none⟩ (.int .i64 k)).setCell ⟨w.heap.size + 1, 1, none⟩ (.bool x)).setCell ⟨w.heap.size + 1, 2, none⟩ (.slice a1 d.size c1)).setCell ⟨w.heap.size + 1, 3, none⟩ (.slice av i cv)).setCell ⟨w.heap.size + 1, 4, none⟩ (.slice av' i cv')).heap.size = wr.heap.size := by simp
        generalize (((((wr.setCell ⟨w.heap.size + 1, 0, none⟩ (.int .i64 k)).setCell ⟨w.heap.size + 1, 1, none⟩ (.bool x)).setCell ⟨w.heap.size + 1, 2, none⟩ (.slice a1 d.size c1)).setCell ⟨w.heap.size + 1, 3, none⟩ (.slice av i cv)).setCell ⟨w.heap.size + 1, 4, none⟩ (.slice av' i cv')) = wF at *
        obtain ⟨h1, h2, h3, h4, h5, h6, h7, h8, h9⟩ := unhide HW
        have h7' : Cl Z wF (.slice av i cv) (.slice av' i cv') ns ks ns.length ks.length := by
          rw [(unhide HN).1, (unhide HN).2]
          exact h7.same (fun k' hk _ => hother k' (by omega)) (by omega)
        have h5' : wF.ownsRow (w.heap.size + 3) 5 1 (.slice a1 d.size c1) d.size (byteVals d) := owns_same h5 (fun g hg => hother g (by have := (owns_lt h5 g hg).1; omega)) (fun _ _ h => h)
        exact (cl_end h7' h5' h6 h8).mono (by omega) (Nat.le_refl _)
end Go.Proofs.YthfjofmfiklegabDoor
/- slices.BinarySearch among names that rise; strings.Cut at a slash. -/
namespace Go.Proofs.YthfjofmfiklegabDoor
open Go.RowKit
theorem nanC_any (x : ByteArray) (w : World) : Calls Tryd.prog 46 #[.string x] w fun e w' => e = .returned (.bool false) ∧ w' = w := by
  go_enter Tryd.func46, Tryd.ntmps46
  go_wp2
  go_ret
  exact ⟨rfl, rfl⟩
theorem nanS_any (x : ByteArray) (w : World) : Calls Tryd.prog 35 #[.string x] w fun e w' => e = .returned (.bool false) ∧ w' = w := by
  go_enter Tryd.func35, Tryd.ntmps35
  go_wp2
  go_ret
  exact ⟨rfl, rfl⟩
theorem less_any (x y : ByteArray) (w : World) : Calls Tryd.prog 34 #[.string x, .string y] w fun e w' => e = .returned (.bool (Op.bytesLess x.toList y.toList)) ∧ w' = w := by
  have HN := hide (fun x w => nanC_any x w)
  go_enter Tryd.func34, Tryd.ntmps34
  go_wp2_with (go_at_call 46; refine (unhide HN _ _).mono ?_; rintro e w' ⟨rfl, hw⟩; rw [hw]; clear hw w')
  go_ret
  exact ⟨rfl, rfl⟩
/-- Names that rise, each once. -/
def Rise (ns : List ByteArray) : Prop := ∀ i j, i < j → j < ns.length → (ns.getD i ⟨#[]⟩).toList < (ns.getD j ⟨#[]⟩).toList
/-- Where a name stands, or would, among names that rise. -/
def Found (ns : List ByteArray) (x : ByteArray) (e : Ending) : Prop :=
  ∃ (i : Nat) (b : Bool), e = .returned (.tuple #[.int .i64 (i : Int), .bool b]) ∧ i ≤ ns.length ∧ (∀ j, j < i → (ns.getD j ⟨#[]⟩).toList < x.toList) ∧ (∀ j, i ≤ j → j < ns.length → ¬ (ns.getD j ⟨#[]⟩).toList < x.toList) ∧ (b = true ↔ i < ns.length ∧ ns.getD i ⟨#[]⟩ = x)
theorem found_mk {ns : List ByteArray} {x : ByteArray} {n i : Nat} {b : Bool} (hn : n = ns.length) (h1 : i ≤ n) (h2 : ∀ j, j < i → (ns.getD j ⟨#[]⟩).toList < x.toList) (h3 : ∀ j, i ≤ j → j < n → ¬ (ns.getD j ⟨#[]⟩).toList < x.toList) (h4 : b = true ↔ i < n ∧ ns.getD i ⟨#[]⟩ = x) : Found ns x (.returned (.tuple #[.int .i64 (i : Int), .bool b])) := by
  subst hn; exact ⟨i, b, rfl, h1, h2, h3, h4⟩
set_option maxRecDepth 20000 in
set_option maxHeartbeats 1000000 in
theorem search_any (lo hi : Nat) (a : Option Addr) (c : Nat) (ns : List ByteArray) (x : ByteArray) (w : World) (hr : Row lo hi w (.slice a ns.length c) ns.length (ns.map .string)) (hR : Rise ns) (hmax : ns.length ≤ 1000000) :
    Calls Tryd.prog 22 #[.slice a ns.length c, .string x] w fun e w' => w' = w ∧ Found ns x e := by
  obtain ⟨n, hn⟩ : ∃ n, n = ns.length := ⟨_, rfl⟩
  rw [← hn] at hr hmax ⊢
  have HN := hide hn
  have HRi := hide hR
  have HC : Hid (∀ i, i < n → ∃ g o, a = some ⟨g, o, none⟩ ∧ w.cell? ⟨g, o + i, none⟩ = some (.string (ns.getD i ⟨#[]⟩))) := fun i hi => by
    obtain ⟨g, o, rfl, _, _, hcell⟩ := hr.at (by omega)
    exact ⟨g, o, rfl, hcell i _ (by rw [List.getElem?_map, List.getElem?_eq_getElem (show i < ns.length by omega), List.getD_eq_getElem?_getD, List.getElem?_eq_getElem (show i < ns.length by omega)]; rfl)⟩
  have HL := hide (fun x y w => less_any x y w)
  have HS := hide (fun x w => nanS_any x w)
  clear hn hR hr
  go_enter Tryd.func22, Tryd.ntmps22
  go_wp2_with fail
  go_loop [7, 8] (fun vl vh => ∃ l h : Nat, l ≤ h ∧ h ≤ n ∧ vl = .int .i64 (l : Int) ∧ vh = .int .i64 (h : Int) ∧ Hid (∀ j, j < l → (ns.getD j ⟨#[]⟩).toList < x.toList) ∧ Hid (∀ j, h ≤ j → j < n → ¬ (ns.getD j ⟨#[]⟩).toList < x.toList)) (fun vl vh => (intOf vh).toNat - (intOf vl).toNat)
  case atStart => exact ⟨0, n, by omega, by omega, rfl, rfl, fun j h => by omega, fun j h h' => by omega⟩
  case round =>
    obtain ⟨l, h, hlh, hhn, rfl, rfl, hlo, hhi⟩ := hrel
    by_cases hlt : l < h
    · obtain ⟨m, hm⟩ : ∃ m : Nat, (l + h) / 2 = m := ⟨_, rfl⟩
      have hmi : ((l : Int) + (h : Int)) / 2 = (m : Int) := by omega
      have hm1 : l ≤ m := by omega
      have hm2 : m < h := by omega
      obtain ⟨g, o, rfl, hcm⟩ := unhide HC m (by omega)
      have hmono : Hid (∀ j, j < n → (j < m → (ns.getD j ⟨#[]⟩).toList < (ns.getD m ⟨#[]⟩).toList) ∧ (m < j → (ns.getD m ⟨#[]⟩).toList < (ns.getD j ⟨#[]⟩).toList)) := fun j hj =>
        ⟨fun h => unhide HRi j m h (by rw [← unhide HN]; omega), fun h => unhide HRi m j h (by rw [← unhide HN]; omega)⟩
      clear hm
      by_cases hz : (ns.getD m ⟨#[]⟩).toList < x.toList
      · have hbl : Op.bytesLess (ns.getD m ⟨#[]⟩).toList x.toList = true := by rw [Go.Proofs.bytesLess_eq]; exact decide_eq_true hz
        have hlo' : Hid (∀ j, j < m + 1 → (ns.getD j ⟨#[]⟩).toList < x.toList) := fun j hj => by
          rcases Nat.lt_or_ge j m with h | h
          · exact Ord.trans ((unhide hmono j (by omega)).1 h) hz
          · obtain rfl : j = m := by omega
            exact hz
        clear hz hmono hlo
        generalize ns.getD m ⟨#[]⟩ = z at *
        go_wp2_with (go_at_call 34; refine (unhide HL _ _ _).mono ?_; rintro e w' ⟨rfl, hw⟩; rw [hw]; clear hw w')
        go_round
        case rel => exact ⟨m + 1, h, by omega, hhn, by go_num, rfl, hlo', hhi⟩
        case measure => simp [intOf]; try omega
      · have hbl : Op.bytesLess (ns.getD m ⟨#[]⟩).toList x.toList = false := by rw [Go.Proofs.bytesLess_eq]; exact decide_eq_false hz
        have hhi' : Hid (∀ j, m ≤ j → j < n → ¬ (ns.getD j ⟨#[]⟩).toList < x.toList) := fun j hj hjn hc => by
          rcases Nat.lt_or_ge m j with h | h
          · exact hz (Ord.trans ((unhide hmono j hjn).2 h) hc)
          · obtain rfl : j = m := by omega
            exact hz hc
        clear hz hmono hhi
        generalize ns.getD m ⟨#[]⟩ = z at *
        go_wp2_with (go_at_call 34; refine (unhide HL _ _ _).mono ?_; rintro e w' ⟨rfl, hw⟩; rw [hw]; clear hw w')
        go_round
        case rel => exact ⟨l, m, hm1, by omega, rfl, by first | rfl | (rw [hmi]), hlo, hhi'⟩
        case measure => simp [intOf]; try omega
    · obtain rfl : l = h := by omega
      by_cases hln : l < n
      · obtain ⟨g, o, rfl, hcm⟩ := unhide HC l hln
        by_cases he : ns.getD l ⟨#[]⟩ = x
        · have HE : Hid (∀ j, l ≤ j → j < n → ¬ (ns.getD j ⟨#[]⟩).toList < x.toList) := hhi
          rw [he] at hcm
          go_wp2_with (go_at_call 35; refine (unhide HS _ _).mono ?_; rintro e w' ⟨rfl, hw⟩; rw [hw]; clear hw w')
          go_ret2
          exact ⟨rfl, found_mk (unhide HN) hhn (unhide hlo) (unhide hhi) ⟨fun _ => ⟨hln, he⟩, fun _ => rfl⟩⟩
        · have hne : ((ns.getD l ⟨#[]⟩).toList == x.toList) = false := by
            rw [beq_eq_false_iff_ne]
            intro h
            rw [ByteArray.toList_eq, ByteArray.toList_eq] at h
            exact he (ByteArray.ext (Array.ext' h))
          have HEn := hide he
          clear he
          generalize hz : ns.getD l ⟨#[]⟩ = z at hcm hne
          have HZ := hide hz
          clear hz
          go_wp2_with (go_at_call 35; refine (unhide HS _ _).mono ?_; rintro e w' ⟨rfl, hw⟩; rw [hw]; clear hw w')
          go_ret2
          exact ⟨rfl, found_mk (unhide HN) hhn (unhide hlo) (unhide hhi) ⟨fun h => by simp at h, fun h => absurd h.2 (unhide HEn)⟩⟩
      · go_wp2_with (go_at_call 35; refine (unhide HS _ _).mono ?_; rintro e w' ⟨rfl, hw⟩; rw [hw]; clear hw w')
        go_ret2
        exact ⟨rfl, found_mk (unhide HN) hhn (unhide hlo) (unhide hhi) ⟨fun h => by simp at h, fun h => absurd h.1 hln⟩⟩
end Go.Proofs.YthfjofmfiklegabDoor
/- Places: names with a slash between; strings.Cut of one. -/
namespace Go.Proofs.YthfjofmfiklegabDoor
open Go.RowKit
/-- Names with a slash between. -/
def joinB : List ByteArray → ByteArray
  | [] => ⟨#[]⟩
  | [n] => n
  | n :: m :: r => ⟨n.data ++ (#[47] ++ (joinB (m :: r)).data)⟩
theorem index_at (a b : List UInt8) (h : (47 : UInt8) ∉ a) : Lib.indexByte (a ++ 47 :: b) 47 = (a.length : Int) := by
  induction a with
  | nil => simp [Lib.indexByte]
  | cons x r ih =>
    have h1 : ¬ x = 47 := fun e => h (by simp [e])
    have h2 := ih (fun e => h (by simp [e]))
    simp only [List.cons_append, Lib.indexByte, h2]
    have e1 : (x == 47) = false := by simpa using h1
    have e2 : (((r.length : Nat) : Int) == -1) = false := by rw [beq_eq_false_iff_ne]; omega
    rw [e1, e2]
    simp
theorem index_none (a : List UInt8) (h : (47 : UInt8) ∉ a) : Lib.indexByte a 47 = -1 := by
  have h1 := (ib_neg a 47).2 h
  have h2 := Lib.indexByte_ge a 47
  omega
theorem join_head (n m : ByteArray) (r : List ByteArray) : (joinB (n :: m :: r)).extract 0 n.size = n := by
  apply ByteArray.ext
  rw [ByteArray.data_extract, joinB]
  apply Array.ext'
  rw [Array.toList_extract]
  simp
theorem join_list (n m : ByteArray) (r : List ByteArray) : (joinB (n :: m :: r)).data.toList = n.data.toList ++ 47 :: (joinB (m :: r)).data.toList := by rw [joinB]; simp
theorem join_rest (n m : ByteArray) (r : List ByteArray) : (joinB (n :: m :: r)).extract (n.size + 1) (joinB (n :: m :: r)).size = joinB (m :: r) := by
  apply ByteArray.ext
  rw [ByteArray.data_extract]
  apply Array.ext'
  have e1 : (joinB (n :: m :: r)).size = (joinB (n :: m :: r)).data.toList.length := by simp
  rw [Array.toList_extract, List.extract_eq_take_drop, e1, join_list, List.take_of_length_le (by simp)]
  have e2 : n.size + 1 = (n.data.toList ++ [47]).length := by simp
  rw [e2, show n.data.toList ++ 47 :: (joinB (m :: r)).data.toList = (n.data.toList ++ [47]) ++ (joinB (m :: r)).data.toList by simp, List.drop_left']
  rfl
theorem join_size (n m : ByteArray) (r : List ByteArray) : (joinB (n :: m :: r)).size = n.size + 1 + (joinB (m :: r)).size := by
  have h := congrArg List.length (join_list n m r)
  simp at h
  omega
set_option maxRecDepth 20000 in
set_option maxHeartbeats 1000000 in
theorem cutI_any (n : ByteArray) (r : List ByteArray) (w : World) (hn : (47 : UInt8) ∉ n.data.toList) (hm : (joinB (n :: r)).size ≤ 1000000) :
    Calls Tryd.prog 33 #[.string (joinB (n :: r)), .string ⟨#[47]⟩] w fun e w' => (∃ q, w' = w.drewN q) ∧ ∃ b, e = .returned (.tuple #[.string n, .string (joinB r), .bool b]) := by
  have HI := hide (fun s w => Tryd.stringslite_Index_one s 47 w)
  cases r with
  | nil =>
    have e1 := hide (index_none n.data.toList hn)
    have e2 : joinB [n] = n := rfl
    have e3 : joinB [] = ⟨#[]⟩ := rfl
    rw [e2, e3]
    go_enter Tryd.func33, Tryd.ntmps33
    go_wp2_with fail
    refine (unhide HI _ _).mono ?_
    rintro e w' ⟨rfl, hw⟩
    rw [hw, unhide e1]
    clear hw w'
    go_wp2_with fail
    go_ret3
    exact ⟨⟨0, rfl⟩, false, rfl⟩
  | cons m r =>
    have e1 : Hid (Lib.indexByte (joinB (n :: m :: r)).data.toList 47 = (n.size : Int)) := by
      show Lib.indexByte (joinB (n :: m :: r)).data.toList 47 = (n.size : Int)
      rw [join_list, index_at _ _ hn]; simp
    have e2 := join_head n m r
    have e3 := join_rest n m r
    have e4 := join_size n m r
    have hm2 : n.size + 1 ≤ (joinB (n :: m :: r)).size := by omega
    have hm3 : n.size ≤ (joinB (n :: m :: r)).size := by omega
    generalize joinB (n :: m :: r) = s at *
    generalize joinB (m :: r) = s' at *
    have E4 := hide e4
    clear e4
    go_enter Tryd.func33, Tryd.ntmps33
    go_wp2_with fail
    refine (unhide HI _ _).mono ?_
    rintro e w' ⟨rfl, hw⟩
    rw [hw, unhide e1]
    clear hw w'
    go_wp2_with fail
    go_quiet (fail)
    go_wp2_with fail
    go_ret3
    exact ⟨⟨_, rfl⟩, true, rfl⟩
set_option maxRecDepth 20000 in
set_option maxHeartbeats 1000000 in
theorem cut_any (n : ByteArray) (r : List ByteArray) (w : World) (hn : (47 : UInt8) ∉ n.data.toList) (hm : (joinB (n :: r)).size ≤ 1000000) :
    Calls Tryd.prog 21 #[.string (joinB (n :: r)), .string ⟨#[47]⟩] w fun e w' => (∃ q, w' = w.drewN q) ∧ ∃ b, e = .returned (.tuple #[.string n, .string (joinB r), .bool b]) := by
  have HI := hide (cutI_any n r w hn hm)
  generalize joinB (n :: r) = s at *
  generalize joinB r = s' at *
  go_enter Tryd.func21, Tryd.ntmps21
  go_wp2_with fail
  refine (unhide HI).mono ?_
  rintro e w' ⟨⟨q, rfl⟩, b, rfl⟩
  go_wp2_with fail
  go_ret3
  exact ⟨⟨q, rfl⟩, b, rfl⟩
end Go.Proofs.YthfjofmfiklegabDoor
/- below: the place of an entry. -/
namespace Go.Proofs.YthfjofmfiklegabDoor
open Go.RowKit
/-- The place of an entry. -/
def belowB (p n : ByteArray) : ByteArray := if p.size = 0 then n else p ++ ⟨#[47]⟩ ++ n
set_option maxRecDepth 20000 in
set_option maxHeartbeats 1000000 in
theorem below_any (p n : ByteArray) (w : World) (hp : p.size ≤ 100000000) (hn : n.size ≤ 100000000) :
    Calls Tryd.prog 37 #[.string p, .string n] w fun e w' => e = .returned (.string (belowB p n)) ∧ Below w.heap.size w w' := by
  have HC := hide (fun w => sclone_any n w (by omega))
  by_cases h0 : p.size = 0
  · have e0 : (p.toList == []) = true := by rw [ByteArray.toList_eq]; have : p.data.toList = [] := List.eq_nil_of_length_eq_zero h0; rw [this]; rfl
    have hB : belowB p n = n := by unfold belowB; rw [if_pos h0]
    rw [hB]
    clear hB h0
    go_enter Tryd.func37, Tryd.ntmps37
    go_wp2_with fail
    refine (unhide HC _).mono ?_
    rintro e w1 ⟨rfl, hb⟩
    go_wp2_with fail
    go_ret
    exact ⟨rfl, hb⟩
  · have e0 : (p.toList == []) = false := by rw [beq_eq_false_iff_ne, ByteArray.toList_eq]; intro h; apply h0; show p.data.toList.length = 0; rw [h]; rfl
    have hB : belowB p n = p ++ ⟨#[47]⟩ ++ n := by unfold belowB; rw [if_neg h0]
    rw [hB]
    clear hB h0
    go_enter Tryd.func37, Tryd.ntmps37
    go_wp2_with fail
    go_ret
    exact ⟨rfl, Below.refl _ _⟩
end Go.Proofs.YthfjofmfiklegabDoor
/- strings.SplitSeq at a slash: the parts of a place, one by one, for a round that may say no more. -/
namespace Go.Proofs.YthfjofmfiklegabDoor
open Go.RowKit Go.Shelf
attribute [local go_sem] Oper.semAt_some
/-- How long the text in a box is. -/
def sizeAt (b : Nat) (w : World) : Nat := match w.cell? ⟨b, 0, none⟩ with
  | some (.string s) => s.size
  | _ => 0
theorem join_lt (n m : ByteArray) (r : List ByteArray) : (joinB (m :: r)).size < (joinB (n :: m :: r)).size := by rw [join_size]; omega
theorem join_mem {parts : List ByteArray} {x : ByteArray} (h : x ∈ parts) : x.size ≤ (joinB parts).size := by
  induction parts with
  | nil => simp at h
  | cons a p ih =>
    cases p with
    | nil => simp at h; subst h; exact Nat.le_refl _
    | cons m r =>
      rw [join_size]
      rcases List.mem_cons.1 h with rfl | h
      · omega
      · have := ih h; omega
theorem join_suffix (pre rest : List ByteArray) (hr : rest ≠ []) : (joinB rest).size ≤ (joinB (pre ++ rest)).size := by
  induction pre with
  | nil => simp
  | cons a p ih =>
    cases h : p ++ rest with
    | nil => simp at h; exact absurd h.2 hr
    | cons m r =>
      rw [h] at ih
      rw [List.cons_append, h, join_size]
      omega
set_option maxRecDepth 20000 in
set_option maxHeartbeats 2000000 in
theorem seq_in (n : Nat) (l Bs Bp Bz : Nat) (parts : List ByteArray) (J Jx : List ByteArray → World → Prop) (hne : parts ≠ []) (h47 : ∀ s ∈ parts, (47 : UInt8) ∉ s.data.toList) (hmax : (joinB parts).size ≤ 1000000)
    (hBx : ∀ pre W, J pre W → W.cell? ⟨Bp, 0, none⟩ = some (.string ⟨#[47]⟩) ∧ W.cell? ⟨Bz, 0, none⟩ = some (.int .i64 0) ∧ W.frozen? ⟨Bs, 0, none⟩ = false)
    (hst : ∀ pre W v, J pre W → J pre (W.setCell ⟨Bs, 0, none⟩ v)) (hsd : Bp ≠ Bs ∧ Bz ≠ Bs)
    (hY : ∀ pre x W, x ∈ parts → J pre W → YieldAt Fence.wide (n - 1) Tryd.prog l #[.string x] W fun e W' =>
      (e = .returned (.bool true) ∧ J (pre ++ [x]) W' ∧ W'.cell? ⟨Bs, 0, none⟩ = W.cell? ⟨Bs, 0, none⟩) ∨ (e = .returned (.bool false) ∧ Jx (pre ++ [x]) W'))
    (W : World) (h0 : J [] W) (hs : W.cell? ⟨Bs, 0, none⟩ = some (.string (joinB parts))) :
    CallsIn Fence.wide n Tryd.prog 41 #[.func (.yield l) #[] #[], .pointer (some ⟨Bp, 0, none⟩), .pointer (some ⟨Bs, 0, none⟩), .pointer (some ⟨Bz, 0, none⟩)] W fun e W' => (∃ v, e = .returned v) ∧ (J parts W' ∨ ∃ pre, pre <+: parts ∧ Jx pre W') := by
  refine callsIn_of_wp Tryd.func41 rfl trivial ?_ rfl
  simp only [Tryd.ntmps41, List.size_toArray, List.length_cons, List.length_nil, Nat.reduceAdd, Nat.reduceSub, Array.replicate_succ, Array.replicate_zero, List.push_toArray, List.append_toArray, List.nil_append, List.cons_append]
  obtain ⟨c1, c2, c3⟩ := hBx [] W h0
  gi_wp2
  have HB := hide hBx
  have HSt := hide hst
  have HY := hide hY
  have H47 := hide h47
  have HMx := hide hmax
  have HI := hide (fun s w => Tryd.strings_Index_one s 47 w)
  obtain ⟨hd1, hd2⟩ := hsd
  clear hBx hst hY h47 c1 c2 c3 hmax
  gi_loopw [7] (fun _ wr => ∃ pre rest : List ByteArray, Hid (parts = pre ++ rest) ∧ Hid (rest ≠ []) ∧ J pre wr ∧ Hid (wr.cell? ⟨Bs, 0, none⟩ = some (.string (joinB rest)))) (fun _ wr => sizeAt Bs wr)
  case atStart => exact ⟨[], parts, rfl, hne, h0, hs⟩
  case round =>
    clear h0 hs
    obtain ⟨pre, rest, hx, hr, hJ, hc⟩ := hrel
    obtain ⟨c1, c2, c3⟩ := unhide HB pre wr hJ
    have hsz : Hid ((joinB rest).size ≤ 1000000) := Nat.le_trans (join_suffix pre rest (unhide hr)) (by rw [← unhide hx]; exact unhide HMx)
    cases rest with
    | nil => exact absurd rfl (unhide hr)
    | cons x rest =>
      have hx47 : (47 : UInt8) ∉ x.data.toList := unhide H47 x (by rw [unhide hx]; simp)
      cases rest with
      | nil =>
        have e1 := hide (index_none x.data.toList hx47)
        have hc' : wr.cell? ⟨Bs, 0, none⟩ = some (.string x) := unhide hc
        obtain ⟨fn, tmps, assign, body, hy, hR⟩ := unhide HY pre x wr (by rw [unhide hx]; simp) hJ
        have HR := hide hR
        clear hR hc
        gi_wp2_with fail
        refine ⟨trivial, fun h => by simp [Fence.wide] at h, ?_⟩
        refine (callsIn_wide.2 (unhide HI _ _)).mono ?_
        rintro e w' ⟨rfl, hw⟩
        rw [hw, unhide e1]
        clear hw w'
        gi_wp2_with fail
        refine ⟨fun h => by simp [Fence.wide] at h, (unhide HR).mono ?_⟩
        rintro e W' (⟨rfl, hJ', -⟩ | ⟨rfl, hJx'⟩)
        · gi_wp2_with fail
          go_end0
          exact ⟨⟨_, rfl⟩, .inl (by rw [unhide hx]; exact hJ')⟩
        · gi_wp2_with fail
          go_end0
          exact ⟨⟨_, rfl⟩, .inr ⟨pre ++ [x], by rw [unhide hx]; exact List.prefix_refl _, hJx'⟩⟩
      | cons m r =>
        have e1 : Hid (Lib.indexByte (joinB (x :: m :: r)).data.toList 47 = (x.size : Int)) := by
          show Lib.indexByte (joinB (x :: m :: r)).data.toList 47 = (x.size : Int)
          rw [join_list, index_at _ _ hx47]; simp
        have e2 := join_head x m r
        have e3 := join_rest x m r
        have hm2 : x.size + 1 ≤ (joinB (x :: m :: r)).size := by rw [join_size]; omega
        have hm3 : x.size ≤ (joinB (x :: m :: r)).size := by omega
        have hm4 : (joinB (x :: m :: r)).size ≤ 1000000 := unhide hsz
        have hlt := hide (join_lt x m r)
        have hc' : wr.cell? ⟨Bs, 0, none⟩ = some (.string (joinB (x :: m :: r))) := unhide hc
        obtain ⟨fn, tmps, assign, body, hy, hR⟩ := unhide HY pre x wr (by rw [unhide hx]; simp) hJ
        have HR := hide hR
        clear hR hc
        generalize joinB (x :: m :: r) = t at *
        gi_wp2_with fail
        refine ⟨trivial, fun h => by simp [Fence.wide] at h, ?_⟩
        refine (callsIn_wide.2 (unhide HI _ _)).mono ?_
        rintro e w' ⟨rfl, hw⟩
        rw [hw, unhide e1]
        clear hw w'
        gi_wp2_with fail
        refine ⟨fun h => by simp [Fence.wide] at h, (unhide HR).mono ?_⟩
        rintro e W' (⟨rfl, hJ', hk⟩ | ⟨rfl, hJx'⟩)
        · obtain ⟨q1, q2, q3⟩ := unhide HB _ W' hJ'
          have q4 : W'.cell? ⟨Bs, 0, none⟩ = some (.string t) := by rw [hk]; exact hc'
          have HJ' := hide hJ'
          have hcs := hide hc'
          clear c1 c2 c3 hJ hk hc' hJ' HR hy
          gi_wp2_with fail
          have hset : (W'.setCell ⟨Bs, 0, none⟩ (.string (joinB (m :: r)))).cell? ⟨Bs, 0, none⟩ = some (.string (joinB (m :: r))) := by simp [go_sem, q4]
          refine ⟨⟨pre ++ [x], m :: r, by show parts = _; rw [unhide hx]; simp, (fun h => by cases h), unhide HSt _ _ _ (unhide HJ'), hset⟩, ?_⟩
          unfold sizeAt
          rw [hset, unhide hcs]
          exact unhide hlt
        · gi_wp2_with fail
          exact bodyPost_ret (v := .tuple #[]) (by simp [results, Tryd.results41]) rfl ⟨⟨_, rfl⟩, .inr ⟨pre ++ [x], ⟨m :: r, by rw [unhide hx]; simp⟩, hJx'⟩⟩
end Go.Proofs.YthfjofmfiklegabDoor
